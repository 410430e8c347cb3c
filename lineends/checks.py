"""The checks of chains, runs, forms and numbers, for the files that share them."""

from lineends.errors import InvalidChain, InvalidForm, InvalidNumber, InvalidRun

STEPS = "UDMN"
FORM_LENGTHS = {"keep": 3, "lf": 5, "cr": 4}


def check_chain(chain):
    """Raise InvalidChain for the first letter that is no step."""
    for index, letter in enumerate(chain):
        if letter not in STEPS:
            raise InvalidChain(index)


def check_run(run):
    """Raise InvalidRun for the first invalid tuple, then for a negative rest."""
    groups, rest = run
    before = None
    for index, (many, j) in enumerate(groups):
        if many < 1 or j < 0 or j == before:
            raise InvalidRun(index)
        before = j
    if rest < 0:
        raise InvalidRun(None)


def is_run(run):
    """Return True if a run passes its check, otherwise False."""
    try:
        check_run(run)
    except InvalidRun:
        return False
    return True


def check_form(wanted):
    """Raise InvalidForm for a tuple that is no form."""
    if not is_form(wanted):
        raise InvalidForm(None)


def is_form(wanted):
    """Return True if a tuple is a form, otherwise False."""
    if not wanted or FORM_LENGTHS.get(wanted[0]) != len(wanted):
        return False
    if min(wanted[1:]) < 0:
        return False
    return wanted[0] == "keep" or wanted[3] > 0


def check_not_negative(number):
    """Raise InvalidNumber for a number below 0."""
    if number < 0:
        raise InvalidNumber(number)
