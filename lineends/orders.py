"""The orders in which a shortest chain multiplies by factors.

To multiply by f takes a chain f steps. This is the sum of the prime factors of f only for primes and for 4, so in a
shortest chain each prime is a factor of its own, but two twos may be one factor 4. The orders are numbered from 0 as
lists of numbers are sorted.
"""

from math import comb


class FactorsLeft:
    """Factors that still have to be put in order."""

    def __init__(self, primes):
        self.twos = primes.count(2)
        self.odd = counted([prime for prime in primes if prime != 2])
        self.many_odd = len(primes) - self.twos
        self.odd_orders = mixed_orders([self.odd[prime] for prime in self.odd])
        self.table = table_of_orders(self.many_odd, self.twos)

    def orders(self):
        """Return the number of orders."""
        return self.odd_orders * self.table[self.many_odd][self.twos]

    def orders_from(self, factor):
        """Return the number of orders that begin with a factor."""
        if factor == 2 or factor == 4:
            return self.odd_orders * self.table[self.many_odd][self.twos - factor // 2]
        return self.odd_orders_behind(factor) * self.table[self.many_odd - 1][self.twos]

    def odd_orders_behind(self, prime):
        """Return the number of orders of the odd primes that begin with one of them."""
        # Each of the equal primes is as often the first one as any other prime.
        return self.odd_orders * self.odd[prime] // self.many_odd

    def choices(self):
        """Return the ascending list of the factors that may come first."""
        found = [prime for prime in self.odd if self.odd[prime] > 0]
        if self.twos > 0:
            found.append(2)
        if self.twos > 1:
            found.append(4)
        return sorted(found)

    def take(self, factor):
        """Take a factor away."""
        if factor == 2 or factor == 4:
            self.twos -= factor // 2
        else:
            self.odd_orders = self.odd_orders_behind(factor)
            self.many_odd -= 1
            self.odd[factor] -= 1


def counted(numbers):
    """Return how often each number stands in a list, as a dict."""
    times = {}
    for number in numbers:
        times[number] = times.get(number, 0) + 1
    return times


def mixed_orders(times):
    """Return the number of orders of things of several kinds, for a list of how many things each kind has."""
    orders = 1
    total = 0
    for many in times:
        total += many
        orders *= comb(total, many)
    return orders


def table_of_orders(many_odd, twos):
    """Return a table: at [m][e] the orders of m odd factors, as if they were equal, and of 2 and 4 with 2 ** e."""
    table = []
    for m in range(many_odd + 1):
        row = []
        for e in range(twos + 1):
            # Told apart by their first factors: an odd one, a 2 or a 4.
            odd_first = table[m - 1][e] if m > 0 else 0
            even_first = sum(row[-2:])
            row.append(odd_first + even_first if m + e > 0 else 1)
        table.append(row)
    return table


def count_orders(primes):
    """Return the number of orders of the factors for a list of primes."""
    return FactorsLeft(primes).orders()


def order_at(primes, number):
    """Return the order with a number, as a list of factors; there must be such an order."""
    left = FactorsLeft(primes)
    order = []
    while left.choices():
        factor, number = first_factor(left, number)
        left.take(factor)
        order.append(factor)
    return order


def first_factor(left, number):
    """Return the first factor of the order with a number, and the number of this order among those that begin so."""
    for factor in left.choices():
        orders = left.orders_from(factor)
        if number < orders:
            return factor, number
        number -= orders
    return None


def number_of_order(order):
    """Return the number of an order, a list of factors."""
    left = FactorsLeft(primes_in(order))
    number = 0
    for factor in order:
        number += sum([left.orders_from(other) for other in left.choices() if other < factor])
        left.take(factor)
    return number


def primes_in(order):
    """Return the primes that the factors of an order consist of."""
    primes = []
    for factor in order:
        primes.extend([2, 2] if factor == 4 else [factor])
    return primes
