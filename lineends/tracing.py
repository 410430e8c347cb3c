"""Where the characters of a converted run stem from, and what stems from the characters of a run."""

from lineends.checks import check_form, check_run
from lineends.composing import NOTHING, units, units_of_group
from lineends.errors import InvalidPlace


def trace(run, wanted, place):
    """Return the place of a run from which the character at a place of the converted run stems."""
    check_run(run)
    check_form(wanted)
    width = characters_of_unit(wanted)
    check_place(place, units(run, wanted) * width)
    groups, _ = run
    at, number, inside = located(groups, lengths_after(groups, wanted), place // width)
    start = start_of(groups, lengths_after(groups, NOTHING), at, number)
    if at < len(groups):
        return start + origin_in_group(groups[at][1], wanted, inside)
    return start + inside


def offspring(run, wanted, place):
    """Return the first and the last place of the converted run that stem from a place of a run, or None."""
    check_run(run)
    check_form(wanted)
    check_place(place, units(run, NOTHING))
    groups, _ = run
    at, number, inside = located(groups, lengths_after(groups, NOTHING), place)
    first, last = inside, inside
    if at < len(groups):
        first, last = units_in_group(groups[at][1], wanted, inside)
    if first > last:
        return None
    start = start_of(groups, lengths_after(groups, wanted), at, number)
    width = characters_of_unit(wanted)
    return ((start + first) * width, (start + last + 1) * width - 1)


def check_place(place, total):
    """Raise InvalidPlace for a place outside of so many characters."""
    if place < 0 or place >= total:
        raise InvalidPlace(place)


def characters_of_unit(wanted):
    """Return how many characters a form makes of each unit; one that keeps the groups leaves each unit as it is."""
    if wanted[0] == "keep":
        return 1
    if wanted[0] == "cr":
        return wanted[3]
    return wanted[3] * (wanted[4] + 1)


def lengths_after(groups, wanted):
    """Return for each tuple the units of one of its groups, and a 0 for the rest behind them."""
    return [units_of_group(j, wanted) for _, j in groups] + [0]


def located(groups, lengths, place):
    """Return the index of the tuple in which a place lies, the number of its group, and the place in this group.

    The rest counts as the only group of a tuple behind the last one.
    """
    for at, (many, _) in enumerate(groups):
        if place < many * lengths[at]:
            number, inside = divmod(place, lengths[at])
            return at, number, inside
        place -= many * lengths[at]
    return len(groups), 0, place


def start_of(groups, lengths, at, number):
    """Return the place at which the group with a number begins in the tuple with an index."""
    before = [many * length for (many, _), length in zip(groups, lengths)]
    return sum(before[:at]) + number * lengths[at]


def returns_left(j, wanted):
    """Return how many of the j returns of a group are still there; they are the first ones."""
    return max(0, j - wanted[1])


def origin_in_group(j, wanted, unit):
    """Return the place in a group with j returns from which one of its units stems."""
    # Whatever stands behind the returns that are left stems from the newline.
    return unit if unit < returns_left(j, wanted) else j


def units_in_group(j, wanted, place):
    """Return the first and the last unit that stem from a place in a group with j returns; the last is less if none."""
    left = returns_left(j, wanted)
    if place == j:
        return left, left + wanted[2]
    return place, min(place, left - 1)
