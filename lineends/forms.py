"""Normal forms of chains."""

from lineends.checks import check_chain, check_form, check_not_negative, check_run
from lineends.composing import NOTHING, form_of_both, form_of_chain, run_after


def form(chain):
    """Return the form of a chain."""
    check_chain(chain)
    return form_of_chain(chain)


def same(first, second):
    """Return True if two chains do the same, otherwise False."""
    check_chain(first)
    check_chain(second)
    return form_of_chain(first) == form_of_chain(second)


def apply_form(run, wanted):
    """Return the run that a form makes of a run."""
    check_run(run)
    check_form(wanted)
    return run_after(run, wanted)


def joined(first, second):
    """Return the form of a chain with one form, followed by a chain with another form."""
    check_form(first)
    check_form(second)
    return form_of_both(first, second)


def powered(wanted, times):
    """Return the form of a chain with a form that is repeated."""
    check_form(wanted)
    check_not_negative(times)
    result = NOTHING
    power = wanted
    # By squares, since the number of times may be far too great for a loop over all of them.
    while times > 0:
        if times % 2 == 1:
            result = form_of_both(result, power)
        times //= 2
        if times > 0:
            power = form_of_both(power, power)
    return result


def commute(first, second):
    """Return True if two chains do the same in both orders, otherwise False."""
    check_chain(first)
    check_chain(second)
    one = form_of_chain(first)
    other = form_of_chain(second)
    return form_of_both(one, other) == form_of_both(other, one)
