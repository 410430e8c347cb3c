"""What forms do with each other and with runs, without any check.

Both converting.py and forms.py need this, and neither of them imports from the other one.
"""

NOTHING = ("keep", 0, 0)
STEP_FORMS = {"U": ("keep", 0, 1), "D": ("keep", 1, 0), "M": ("lf", 0, 0, 1, 0), "N": ("cr", 0, 0, 1)}


def form_of_chain(chain):
    """Return the form of a valid chain."""
    wanted = NOTHING
    for letter in chain:
        wanted = form_of_both(wanted, STEP_FORMS[letter])
    return wanted


def form_of_both(first, second):
    """Return the form of what one form does, followed by what another one does."""
    if first[0] == "keep":
        return after_keep(first, second)
    if second[0] == "keep":
        return before_keep(first, second)
    k = first[3] * units_of_one(first, second) * second[3]
    return (second[0], first[1], first[2], k) + second[4:]


def after_keep(first, second):
    """Return the form of both where the first one keeps the groups."""
    _, b, a = first
    more_b = second[1]
    # The second form takes away what the first one put in, before it takes any of the original.
    b_of_both = b + max(0, more_b - a)
    a_of_both = max(0, a - more_b) + second[2]
    return (second[0], b_of_both, a_of_both) + second[3:]


def before_keep(first, second):
    """Return the form of both where the second one alone keeps the groups."""
    if first[0] == "cr":
        return first
    return first[:4] + (signs_after(first[4], second),)


def units_of_one(first, second):
    """Return the units that the second form counts in one group or rest character which the first one made."""
    if first[0] == "cr":
        return 1
    return units_of_group(first[4], second)


def signs_after(j, wanted):
    """Return how many returns a group with j of them has once b are taken away and a are put in."""
    return max(0, j - wanted[1]) + wanted[2]


def run_after(run, wanted):
    """Return the run that a form makes of a run."""
    groups, rest = run
    if wanted[0] == "keep":
        return (merged_groups([(many, signs_after(j, wanted)) for many, j in groups]), rest)
    return run_of_units(units(run, wanted), wanted)


def run_of_units(total, wanted):
    """Return the run that a form makes of a run with so many units, where it doesn't keep the groups."""
    number = wanted[3] * total
    if wanted[0] == "cr":
        return ([], number)
    # The run without characters has no units, and no tuple stands for no groups.
    if number == 0:
        return ([], 0)
    return ([(number, wanted[4])], 0)


def units(run, wanted):
    """Return the units of a run for the b and a of a form."""
    groups, rest = run
    return sum([many * units_of_group(j, wanted) for many, j in groups]) + rest


def units_of_group(j, wanted):
    """Return the units of one group with j returns for the b and a of a form."""
    return signs_after(j, wanted) + 1


def merged_groups(groups):
    """Return a new list in which neighbours with the same number of returns are one tuple."""
    merged = []
    for many, j in groups:
        if merged and merged[-1][1] == j:
            merged[-1] = (merged[-1][0] + many, j)
        else:
            merged.append((many, j))
    return merged
