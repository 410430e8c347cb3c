"""Points 7 and 9: the forms with given fewest steps."""

import itertools
import unittest
from functools import lru_cache

from lineends.counting import count_forms, forms_with
from lineends.errors import InvalidNumber
from lineends.forms import form
from lineends.shortest import fewest_steps
from tests.helpers import GREAT, chains_up_to, check_error, first_of, slow_primes


@lru_cache(None)
def ways(total, least):
    """The number of ways to add up primes that are not below the least one."""
    if total == 0:
        return 1
    primes = [number for number in range(least, total + 1) if all(number % each for each in range(2, number))]
    return sum(ways(total - prime, prime) for prime in primes)


def forms_by_steps(length):
    """The sets of all forms of chains with at most so many steps, by the fewest steps."""
    seen = {}
    for chain in chains_up_to(length):
        seen.setdefault(form(chain), len(chain))
    return [{wanted for wanted in seen if seen[wanted] == steps} for steps in range(length + 1)]


class TryingTest(unittest.TestCase):
    @classmethod
    def setUpClass(cls):
        cls.found = forms_by_steps(7)

    def test_count_forms(self):
        self.assertEqual([count_forms(steps) for steps in range(8)], [len(each) for each in self.found])

    def test_forms_with(self):
        for steps, wanted in enumerate(self.found):
            self.assertEqual(list(forms_with(steps)), sorted(wanted))


class CountFormsTest(unittest.TestCase):
    def test_few_steps(self):
        self.assertEqual([count_forms(steps) for steps in range(4)], [1, 4, 8, 15])

    def test_300_steps(self):
        many = 301
        for total in range(300):
            left = 299 - total
            # For each k, b and a have the sum that is left, or b, a and c have it.
            many += ways(total, 2) * (left + 1 + sum(left - c + 1 for c in range(left + 1)))
        self.assertEqual(count_forms(300), many)

    def test_as_many_as_forms_with(self):
        for steps in range(31):
            self.assertEqual(count_forms(steps), sum(1 for _ in forms_with(steps)), steps)

    def test_it_grows(self):
        counts = [count_forms(steps) for steps in range(301)]
        self.assertEqual(counts, sorted(set(counts)))


class FormsWithTest(unittest.TestCase):
    def test_no_steps_and_one_step(self):
        self.assertEqual(list(forms_with(0)), [("keep", 0, 0)])
        self.assertEqual(list(forms_with(1)), [("cr", 0, 0, 1), ("keep", 0, 1), ("keep", 1, 0), ("lf", 0, 0, 1, 0)])

    def test_three_steps(self):
        self.assertEqual(list(forms_with(3)), [
            ("cr", 0, 0, 2), ("cr", 0, 2, 1), ("cr", 1, 1, 1), ("cr", 2, 0, 1),
            ("keep", 0, 3), ("keep", 1, 2), ("keep", 2, 1), ("keep", 3, 0),
            ("lf", 0, 0, 1, 2), ("lf", 0, 0, 2, 0), ("lf", 0, 1, 1, 1), ("lf", 0, 2, 1, 0), ("lf", 1, 0, 1, 1),
            ("lf", 1, 1, 1, 0), ("lf", 2, 0, 1, 0)])

    def test_ascending_and_with_these_steps(self):
        for steps in [*range(20), 30]:
            found = list(forms_with(steps))
            self.assertEqual(found, sorted(set(found)))
            self.assertEqual({fewest_steps(wanted) for wanted in found}, {steps})

    def test_a_walk_may_stop_early(self):
        ks = [k for k in range(1, 1000) if sum(slow_primes(k)) == 29]
        self.assertEqual(list(itertools.islice(forms_with(30), len(ks))), [("cr", 0, 0, k) for k in ks])

    def test_walks_are_independent(self):
        whole = list(forms_with(9))
        one, other = iter(forms_with(9)), iter(forms_with(8))
        for wanted in whole[:40]:
            self.assertEqual(next(one), wanted)
            next(other)
        self.assertEqual(list(forms_with(9)), whole)
        self.assertEqual(list(one), whole[40:])


class ErrorsTest(unittest.TestCase):
    def test_negative_numbers(self):
        for steps in [-1, -2, -300, -GREAT, -10 ** 5000]:
            check_error(self, InvalidNumber, steps, count_forms, steps)
            check_error(self, InvalidNumber, steps, first_of(forms_with), steps)
