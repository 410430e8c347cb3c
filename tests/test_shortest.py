"""Point 9: fewest steps and shortest chains, their numbers and their order."""

import unittest
from functools import lru_cache

from lineends.errors import InvalidChain, InvalidForm, InvalidNumber
from lineends.forms import form, joined, powered
from lineends.shortest import count_shortest, fewest_steps, nth_shortest, shortest_chain, shortest_number
from tests.helpers import GREAT, NO_FORMS, chains_up_to, check_error, slow_primes, small_forms

# Each has many prime factors or great ones.
MANY_FACTORS = [2 ** 29, 3 ** 18, 2 ** 15 * 3 ** 9, 10 ** 9, 735134400, 223092870, 5 ** 12 * 4, 7 ** 10, 2 * 3 ** 17,
                2 ** 27 * 7, 29 ** 6, 4 * 9 * 25 * 49 * 121 * 169]

# Forms with 3000 fewest steps.
LONG_FORMS = [
    ("keep", 1000, 2000), ("keep", 3000, 0), ("keep", 0, 3000),
    ("lf", 2999, 0, 1, 0), ("lf", 0, 2999, 1, 0), ("lf", 0, 0, 1, 2999), ("cr", 1200, 1799, 1),
    ("lf", 1000, 999, 12, 993), ("cr", 2900, 41, 2 ** 29), ("lf", 1, 2, 2 ** 15 * 3 ** 9, 2939),
    ("cr", 2945, 0, 3 ** 18), ("cr", 20, 2, 8 * 2971), ("lf", 0, 0, 2999, 0), ("cr", 0, 0, 2999),
    ("lf", 0, 2920, 735134400, 0),
]


def grouped_by_form(length):
    """All chains of at most so many steps by their forms, each list with the shorter chains first."""
    groups = {}
    for chain in chains_up_to(length):
        groups.setdefault(form(chain), []).append(chain)
    return groups


@lru_cache(None)
def slow_count(k):
    """The number of orders of factors that are primes or 4, first factor by first factor."""
    firsts = set(slow_primes(k)) | ({4} if k % 4 == 0 else set())
    return sum(slow_count(k // factor) for factor in firsts) if k > 1 else 1


def numbers_between(many):
    """The first and the last number and some between."""
    return sorted({0, many // 7, many // 3, many // 2, many - many // 5 - 1, many - 1})


class ExamplesTest(unittest.TestCase):
    def test_twelve(self):
        twelve = ("cr", 0, 0, 12)
        self.assertEqual([nth_shortest(twelve, number) for number in range(5)],
                         ["MUMUMUUN", "MUMUUMUN", "MUUMUMUN", "MUUMUUUN", "MUUUMUUN"])
        self.assertEqual(shortest_number("MUUUMUUN"), 4)

    def test_all_kinds(self):
        for wanted, chain in [(("keep", 2, 3), "DDUUU"), (("lf", 2, 3, 10, 4), "DDUUUMUMUUUUMUUUU"),
                              (("cr", 1, 1, 9), "DUMUUMUUN")]:
            self.assertEqual(shortest_chain(wanted), chain)
            self.assertEqual(fewest_steps(wanted), len(chain))

    def test_the_least_forms(self):
        for wanted, chain in [(("keep", 0, 0), ""), (("keep", 0, 1), "U"), (("keep", 1, 0), "D"),
                              (("lf", 0, 0, 1, 0), "M"), (("cr", 0, 0, 1), "N"), (("lf", 0, 0, 1, 1), "MU"),
                              (("cr", 0, 0, 2), "MUN"), (("cr", 1, 1, 1), "DUN")]:
            self.assertEqual(fewest_steps(wanted), len(chain))
            self.assertEqual(shortest_chain(wanted), chain)
            self.assertEqual(count_shortest(wanted), 1)
            self.assertEqual(nth_shortest(wanted, 0), chain)
            self.assertEqual(shortest_number(chain), 0)

    def test_a_factor_of_four_is_no_longer_than_two_twos(self):
        self.assertEqual([nth_shortest(("lf", 0, 0, 4, 1), number) for number in range(2)], ["MUMUMU", "MUUUMU"])
        self.assertIsNone(shortest_number("MUUUUUM"))
        self.assertIsNone(shortest_number("MUUUUUUUM"))


class TryingTest(unittest.TestCase):
    @classmethod
    def setUpClass(cls):
        cls.groups = grouped_by_form(7)

    def shortest(self):
        """Each form with its shortest chains, found by trying, and its longer chains."""
        for wanted, chains in self.groups.items():
            fewest = len(chains[0])
            yield (wanted, sorted(chain for chain in chains if len(chain) == fewest),
                   [chain for chain in chains if len(chain) > fewest])

    def test_fewest_steps(self):
        for wanted, chains, _ in self.shortest():
            self.assertEqual(fewest_steps(wanted), len(chains[0]), wanted)

    def test_count_shortest(self):
        for wanted, chains, _ in self.shortest():
            self.assertEqual(count_shortest(wanted), len(chains), wanted)

    def test_shortest_chain(self):
        for wanted, chains, _ in self.shortest():
            self.assertEqual(shortest_chain(wanted), chains[0])

    def test_nth_shortest(self):
        for wanted, chains, _ in self.shortest():
            self.assertEqual([nth_shortest(wanted, number) for number in range(len(chains))], chains)

    def test_nth_shortest_where_there_is_none(self):
        for wanted, chains, _ in self.shortest():
            for number in [-1, -2, -GREAT, len(chains), len(chains) + 1, GREAT]:
                check_error(self, InvalidNumber, number, nth_shortest, wanted, number)

    def test_shortest_number(self):
        for _, chains, longer in self.shortest():
            self.assertEqual([shortest_number(chain) for chain in chains], list(range(len(chains))))
            for chain in longer:
                self.assertIsNone(shortest_number(chain), chain)

    def test_no_form_with_few_steps_is_left_out(self):
        for wanted in small_forms(3):
            if fewest_steps(wanted) <= 7:
                self.assertIn(wanted, self.groups)


class GreatFormsTest(unittest.TestCase):
    def check_numbers(self, wanted, numbers):
        """Check the shortest chains with these ascending numbers."""
        chains = [nth_shortest(wanted, number) for number in numbers]
        self.assertEqual(chains, sorted(set(chains)))
        for number, chain in zip(numbers, chains):
            self.assertEqual(form(chain), wanted)
            self.assertEqual(len(chain), fewest_steps(wanted))
            self.assertEqual(shortest_number(chain), number)

    def test_each_small_k(self):
        for k in range(1, 1500):
            total = sum(slow_primes(k))
            self.assertEqual(fewest_steps(("cr", 0, 0, k)), 1 + total, k)
            self.assertEqual(fewest_steps(("lf", 1, 2, k, 3)), 7 + total, k)
            self.assertEqual(count_shortest(("lf", 1, 2, k, 3)), slow_count(k), k)

    def test_many_factors(self):
        for k in MANY_FACTORS:
            many = slow_count(k)
            total = sum(slow_primes(k))
            for wanted, steps in [(("lf", 1, 0, k, 2), total + 4), (("cr", 0, 2, k), total + 3)]:
                self.assertEqual((fewest_steps(wanted), count_shortest(wanted)), (steps, many))
                self.check_numbers(wanted, numbers_between(many))
                self.assertEqual(shortest_chain(wanted), nth_shortest(wanted, 0))
                check_error(self, InvalidNumber, many, nth_shortest, wanted, many)
                check_error(self, InvalidNumber, -1, nth_shortest, wanted, -1)

    def test_all_of_very_many(self):
        for wanted in [("lf", 0, 0, 2 ** 8 * 3 ** 2 * 5, 1), ("cr", 1, 0, 2 ** 4 * 3 * 5 * 7)]:
            many = count_shortest(wanted)
            self.assertGreater(many, 500)
            self.check_numbers(wanted, list(range(many)))

    def test_great_primes(self):
        for b, a, c in [(0, 0, 0), (GREAT, 1, GREAT), (5, GREAT, 0)]:
            for k, total, many in [(999999937, 999999937, 1), (2 * 499999993, 499999995, 2), (31607 ** 2, 63214, 1),
                                   (31601 * 31607, 63208, 2), (4 * 249999991, 249999995, 5)]:
                self.assertEqual(fewest_steps(("lf", b, a, k, c)), b + a + 1 + total + c)
                self.assertEqual(fewest_steps(("cr", b, a, k)), b + a + 1 + total)
                self.assertEqual(count_shortest(("lf", b, a, k, c)), many)
                self.assertEqual(count_shortest(("cr", b, a, k)), many)

    def test_great_numbers_beside_k(self):
        self.assertEqual(fewest_steps(("keep", GREAT, GREAT)), 2 * GREAT)
        self.assertEqual(count_shortest(("keep", GREAT, GREAT)), 1)
        self.assertEqual(fewest_steps(("lf", GREAT, GREAT - 1, 12, GREAT - 2)), 3 * GREAT + 5)
        self.assertEqual(count_shortest(("lf", GREAT, GREAT, 12, GREAT)), 5)
        self.assertEqual(count_shortest(("cr", GREAT, GREAT, 2 ** 29)), 832040)

    def test_returned_forms_with_greater_numbers(self):
        wanted = joined(powered(("keep", 3, GREAT), GREAT), ("lf", 0, GREAT, 12, GREAT))
        self.assertEqual(fewest_steps(wanted), wanted[1] + wanted[2] + 8 + GREAT)
        self.assertGreater(fewest_steps(wanted), 10 ** 59)
        self.assertEqual(count_shortest(wanted), 5)

    def test_forms_with_3000_fewest_steps(self):
        for wanted in LONG_FORMS:
            self.assertEqual(fewest_steps(wanted), 3000, wanted)
            many = count_shortest(wanted)
            self.check_numbers(wanted, numbers_between(many))
            self.assertEqual(shortest_chain(wanted), nth_shortest(wanted, 0))
            check_error(self, InvalidNumber, many, nth_shortest, wanted, many)


class ShortestNumberTest(unittest.TestCase):
    def test_chains_with_a_great_k(self):
        for chain in ["M" + "UUM" * 19 + "UU", "MU" * 29 + "N", "M" + "UUUM" * 14, "M" + "UUM" * 66, "MU" * 99 + "N"]:
            self.assertGreater(form(chain)[3], 10 ** 8)
            self.assertGreaterEqual(shortest_number(chain), 0)
            self.assertIsNone(shortest_number(chain + "UD"))
        self.assertEqual(shortest_number("M" + "UUM" * 66), 0)
        self.assertEqual(shortest_number("MU" * 99 + "N"), 0)

    def test_the_last_of_very_many(self):
        # The orders of 2 and 4 are as many as a Fibonacci number.
        before, many = 1, 1
        for _ in range(199):
            before, many = many, before + many
        self.assertEqual(shortest_number("M" + "UUUM" * 100), many - 1)

    def test_long_chains_that_are_not_the_shortest(self):
        for chain in ["U" * 1500 + "D" * 1500, "UD" * 30, "NN", "MN", "NM", "M" + "D" * 50, "N" + "U" * 50, "M" * 60,
                      "DUDU", "MUUUUUN", "M" + "UUUUUUUM" * 7, "UMUUUUUM", "MUMNU", "NMUM"]:
            self.assertIsNone(shortest_number(chain), chain)

    def test_returned_chains(self):
        chain = shortest_chain(("lf", 1000, 900, 720720, 1000))
        self.assertEqual(shortest_number(chain), 0)
        self.assertIsNone(shortest_number(chain + "DU" + chain))

    def test_the_kind_of_the_answer(self):
        self.assertIs(type(shortest_number("MUM")), int)
        self.assertIs(shortest_number("MM"), None)


class ErrorsTest(unittest.TestCase):
    def test_form_check(self):
        for wanted in NO_FORMS:
            for function in [fewest_steps, shortest_chain, count_shortest]:
                check_error(self, InvalidForm, None, function, wanted)

    def test_the_form_is_checked_before_the_number(self):
        for wanted in NO_FORMS:
            for number in [-1, 0, GREAT]:
                check_error(self, InvalidForm, None, nth_shortest, wanted, number)

    def test_the_number_of_keep(self):
        self.assertEqual(nth_shortest(("keep", 1, 1), 0), "DU")
        for number in [-1, 1, 10 ** 5000, -10 ** 5000]:
            check_error(self, InvalidNumber, number, nth_shortest, ("keep", 1, 1), number)

    def test_chain_check(self):
        for chain, index in [("X", 0), ("UX", 1), ("UDMNu", 4), ("U N", 1), ("XY", 0), ("MUM\n", 3),
                             ("D" * 59 + "V", 59)]:
            check_error(self, InvalidChain, index, shortest_number, chain)
