"""The sources of a run for a form: the runs of which the form makes it."""

from lineends.checks import check_form, check_run
from lineends.composing import merged_groups, run_of_units, units_of_group


def count_sources(run, wanted):
    """Return the number of sources of a run for a form."""
    check_run(run)
    check_form(wanted)
    if wanted[0] == "keep":
        return count_kept(run, wanted)
    total = units_before(run, wanted)
    if total is None:
        return 0
    return count_with_units(total, wanted)


def sources(run, wanted):
    """Yield the sources of a run for a form, in string order of their texts."""
    check_run(run)
    check_form(wanted)
    if wanted[0] == "keep":
        if can_be_kept(run, wanted):
            yield from sources_by_groups(run, wanted)
    else:
        total = units_before(run, wanted)
        if total is not None:
            yield from sources_by_units(total, wanted)


def can_be_kept(run, wanted):
    """Return True if a run has sources for a form that keeps the groups, otherwise False."""
    groups, _ = run
    return all([j >= wanted[2] for _, j in groups])


def count_kept(run, wanted):
    """Return the number of sources for a form that keeps the groups."""
    if not can_be_kept(run, wanted):
        return 0
    groups, _ = run
    # A group that lost all of its returns may have had any number of them from 0 to b.
    emptied = sum([many for many, j in groups if j == wanted[2]])
    return to_the_power(wanted[1] + 1, emptied)


def to_the_power(base, times):
    """Return the product of so many equal numbers."""
    product = 1
    while times > 0:
        if times % 2 == 1:
            product *= base
        base *= base
        times //= 2
    return product


def units_before(run, wanted):
    """Return the units that each source has for a form that keeps no groups, or None if there is no source."""
    groups, rest = run
    number = groups[0][0] if groups else rest
    total = number // wanted[3]
    # All runs with these units are sources, or none is: the number, the groups or the rest may not fit.
    return total if run_of_units(total, wanted) == run else None


def count_with_units(total, wanted):
    """Return the number of runs with so many units."""
    _, b, a = wanted[:3]
    counts = []
    # A run is a rest alone, or it is a first group and a run behind it. There are b + 1 groups with the least units,
    # a + 1, and one group with each greater number of units.
    behind_greater = 0
    for number in range(total + 1):
        many = 1 + behind_greater
        if number > a:
            behind_least = counts[number - a - 1]
            many += (b + 1) * behind_least
            behind_greater += behind_least
        counts.append(many)
    return counts[total]


def sources_by_groups(run, wanted):
    """Yield the sources for a form that keeps the groups."""
    groups, rest = run
    _, b, a = wanted
    after = [j for many, j in groups for _ in range(many)]
    emptied = [at for at, j in enumerate(after) if j == a]
    js = [0 if j == a else j - a + b for j in after]
    while js is not None:
        yield (merged_groups([(1, j) for j in js]), rest)
        js = counted_up(js, emptied, b)


def counted_up(js, places, b):
    """Return the next numbers of returns where those at some places go from 0 to b, or None behind the last ones."""
    higher = list(js)
    for place in reversed(places):
        if higher[place] < b:
            higher[place] += 1
            return higher
        higher[place] = 0
    return None


def sources_by_units(total, wanted):
    """Yield the runs with so many units."""
    source = filled([], total, wanted)
    while source is not None:
        js, rest = source
        yield (merged_groups([(1, j) for j in js]), rest)
        source = source_behind(js, rest, wanted)


def filled(js, left, wanted):
    """Return the first source that begins with these groups and has so many units left behind them."""
    units = units_of_group(0, wanted)
    return (js + [0] * (left // units), left % units)


def with_group(js, j, left, wanted):
    """Return the first source that begins with these groups and one with j returns, with so many units left."""
    return filled(js + [j], left - units_of_group(j, wanted), wanted)


def source_behind(js, rest, wanted):
    """Return the source that comes next in string order, or None behind the last one."""
    # A rest comes behind the groups with fewer returns, and before those with as many or more.
    if rest < many_choices(rest, wanted):
        return with_group(js, rest, rest, wanted)
    before = list(js)
    left = rest
    while before:
        j = before.pop()
        left += units_of_group(j, wanted)
        choices = many_choices(left, wanted)
        if j < left and j + 1 >= min(left, choices):
            return (before, left)
        if j + 1 < choices:
            return with_group(before, j + 1, left, wanted)
    return None


def many_choices(left, wanted):
    """Return how many numbers of returns, from 0 on, a group may have if so many units are left for it."""
    _, b, a = wanted[:3]
    if left <= a:
        return 0
    return b + left - a
