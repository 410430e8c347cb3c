"""What stays as it is, and what can be undone."""

from lineends.checks import check_form, check_run
from lineends.composing import form_of_both, run_after


def stays(run, wanted):
    """Return True if a form makes the same run of a run, otherwise False."""
    check_run(run)
    check_form(wanted)
    return run_after(run, wanted) == run


def is_idempotent(wanted):
    """Return True if a chain with the form does the same twice as once, otherwise False."""
    check_form(wanted)
    return form_of_both(wanted, wanted) == wanted


def undoing(wanted):
    """Return the shortest chain that makes the original of every text again, or None if there is none."""
    check_form(wanted)
    # Any other form makes the same of a newline and of some other run, and no chain can tell them apart again.
    if wanted[0] == "keep" and wanted[1] == 0:
        return "D" * wanted[2]
    return None
