"""The shortest chain that leads from what one form makes to what another one makes."""

from lineends.checks import check_form
from lineends.factors import divisors, steps_of_form
from lineends.shortest import shortest_chain


def remainder(first, second):
    """Return the first shortest chain in string order that leads from one form to another one, or None."""
    check_form(first)
    check_form(second)
    forms = forms_between(first, second)
    if not forms:
        return None
    least = min([steps_of_form(wanted) for wanted in forms])
    # Only the chains that tie are written out, since the others may be far too long.
    return min([shortest_chain(wanted) for wanted in forms if steps_of_form(wanted) == least])


def forms_between(first, second):
    """Return forms that lead from one form to another one, among them all those with the fewest steps."""
    if first[0] == "keep":
        return forms_behind_keep(first, second)
    if second[0] == "keep" or first[1:3] != second[1:3] or second[3] % first[3] != 0:
        return []
    quotient = second[3] // first[3]
    if quotient == 1 and first[0] == second[0]:
        return [form_between_ends(first, second)]
    if first[0] == "cr":
        return [(second[0], 0, 0, quotient) + second[4:]]
    return forms_behind_lf(first, second, quotient)


def forms_behind_keep(first, second):
    """Return the shortest form that leads from one that keeps the groups to another one, in a list."""
    _, b, a = first
    if second[1] < b:
        return []
    if second[1] > b:
        # To take more of the original, it must take all that the first form put in.
        taken, put = a + second[1] - b, second[2]
    else:
        taken, put = changes_between(a, second[2])
    return [(second[0], taken, put) + second[3:]]


def form_between_ends(first, second):
    """Return the shortest form between two that differ at most in the returns of their groups."""
    if first[0] == "cr":
        return ("keep", 0, 0)
    taken, put = changes_between(first[4], second[4])
    return ("keep", taken, put)


def forms_behind_lf(first, second, quotient):
    """Return for each divisor of the quotient the shortest form that makes so many units of each group, in a list."""
    found = []
    for units in divisors(quotient):
        # The units of a group are its returns and its newline.
        taken, put = changes_between(first[4], units - 1)
        found.append((second[0], taken, put, quotient // units) + second[4:])
    return found


def changes_between(j, wanted_j):
    """Return how many returns must be taken and how many put in, at the least, to make another number of a number."""
    return max(0, j - wanted_j), max(0, wanted_j - j)
