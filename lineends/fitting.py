"""Forms that fit examples: pairs of a run and what becomes of it."""

from lineends.checks import check_form, is_form, is_run
from lineends.composing import NOTHING, run_after, units
from lineends.errors import InvalidRun
from lineends.factors import divisors, steps_of_form


def fits(pairs, wanted):
    """Return True if a form makes of the first run of each pair the second one, otherwise False."""
    check_pairs(pairs)
    check_form(wanted)
    return fits_all(pairs, wanted)


def simplest(pairs):
    """Return all forms that fit and have the least fewest steps among those, in ascending order."""
    check_pairs(pairs)
    fitting = [wanted for wanted in candidates(pairs) if is_form(wanted) and fits_all(pairs, wanted)]
    if not fitting:
        return []
    least = min([steps_of_form(wanted) for wanted in fitting])
    return sorted([wanted for wanted in fitting if steps_of_form(wanted) == least])


def check_pairs(pairs):
    """Raise InvalidRun with the index of the first pair in which a run is not valid."""
    for index, (first, second) in enumerate(pairs):
        if not is_run(first) or not is_run(second):
            raise InvalidRun(index)


def fits_all(pairs, wanted):
    """Return True if a valid form fits all pairs, otherwise False."""
    return all([run_after(first, wanted) == second for first, second in pairs])


def candidates(pairs):
    """Return tuples among which are all of the simplest forms that fit; not each one is a form or fits."""
    if not pairs:
        return [NOTHING]
    first, second = max(pairs, key=signs_to_tell)
    found = []
    # With a greater b than that, no group has fewer returns, but the form has more steps.
    for b in range(most_returns(pairs) + 1):
        found.append(("keep", b, a_of_keep(first, second, b)))
        found.extend(forms_by_units(first, second, b))
    return found


def signs_to_tell(pair):
    """Return a greater value for a pair that tells more of a form: one with groups, or else with a rest."""
    groups, rest = pair[0]
    return (len(groups), rest)


def most_returns(pairs):
    """Return the greatest number of returns in a group of a first run."""
    return max([0] + [j for (groups, _), _ in pairs for _, j in groups])


def a_of_keep(first, second, b):
    """Return the only a with which a form with this b that keeps the groups may fit, or a negative number."""
    if not first[0]:
        return 0
    if not second[0]:
        return -1
    return second[0][0][1] - max(0, first[0][0][1] - b)


def forms_by_units(first, second, b):
    """Return tuples: all that may fit among the forms with this b that do not keep the groups."""
    groups, rest = second
    if groups:
        number, j = groups[0]
        return [("lf", b, a_by_units(first, number // k, b), k, j) for k in divisors(number)]
    return [("cr", b, a_by_units(first, rest // k, b), k) for k in divisors(rest)]


def a_by_units(run, total, b):
    """Return the only a with which a run may have so many units for this b, or a negative number."""
    groups, _ = run
    if not groups:
        return 0
    # Each group has a units more than it has without any a.
    return (total - units(run, ("keep", b, 0))) // sum([many for many, _ in groups])
