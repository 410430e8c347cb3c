"""Shortest chains of forms: their length, their number, and each of them."""

from lineends.checks import check_chain, check_form
from lineends.composing import form_of_chain
from lineends.errors import InvalidNumber
from lineends.factors import primes_of_form, steps_of_form
from lineends.orders import count_orders, number_of_order, order_at


def fewest_steps(wanted):
    """Return the fewest steps of a form."""
    check_form(wanted)
    return steps_of_form(wanted)


def shortest_chain(wanted):
    """Return the first shortest chain of a form in string order."""
    check_form(wanted)
    # The first order of the factors is the ascending one.
    return chain_with_factors(wanted, primes_of_form(wanted))


def count_shortest(wanted):
    """Return the number of shortest chains of a form."""
    check_form(wanted)
    return count_orders(primes_of_form(wanted))


def nth_shortest(wanted, number):
    """Return the shortest chain of a form with a number."""
    check_form(wanted)
    primes = primes_of_form(wanted)
    if number < 0 or number >= count_orders(primes):
        raise InvalidNumber(number)
    return chain_with_factors(wanted, order_at(primes, number))


def shortest_number(chain):
    """Return the number of a chain among the shortest chains of its form, or None if it is not one of them."""
    check_chain(chain)
    wanted = form_of_chain(chain)
    if len(chain) > steps_of_form(wanted):
        return None
    # A smaller factor has its M or N where a greater one still has a U: the chains are in the order of their factors.
    return number_of_order(factors_of_chain(chain))


def chain_with_factors(wanted, factors):
    """Return the shortest chain of a form that multiplies by its factors in this order."""
    start = "D" * wanted[1] + "U" * wanted[2]
    if wanted[0] == "keep":
        return start
    middle = "M" + "".join(["U" * (factor - 1) + "M" for factor in factors])
    if wanted[0] == "lf":
        return start + middle + "U" * wanted[4]
    return start + middle[:-1] + "N"


def factors_of_chain(chain):
    """Return the factors by which a shortest chain multiplies, in their order."""
    between = chain.replace("N", "M").split("M")[1:-1]
    return [len(piece) + 1 for piece in between]
