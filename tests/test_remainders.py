"""Points 7, 8 and 9: the shortest chain from one form to another one."""

import random
import unittest

from lineends.counting import forms_with
from lineends.errors import InvalidForm
from lineends.forms import form, joined
from lineends.remainders import remainder
from lineends.shortest import fewest_steps, nth_shortest
from lineends.staying import undoing
from tests.helpers import GREAT, NO_FORMS, chains_up_to, check_error, sign_texts, slow_convert, slow_primes, small_forms

BILLION = 10 ** 9
# All forms with at most so many steps are tried for small forms: from one to another, none needs more.
ENOUGH = 12


def first_chains(length):
    """The first chain in string order for each form of a chain of at most so many steps, the shortest ones first."""
    found = {}
    for chain in chains_up_to(length):
        shortest = found.setdefault(form(chain), chain)
        if len(chain) == len(shortest):
            found[form(chain)] = min(chain, shortest)
    return found


def written_chain(word, b, a, factors, c):
    """The chain that multiplies by these factors."""
    middle = "M" + "".join("U" * (factor - 1) + "M" for factor in factors)
    return "D" * b + "U" * a + (middle + "U" * c if word == "lf" else middle[:-1] + "N")


def slow_from_groups(c, word, quotient, new_c):
    """The first shortest chain from groups with c returns to so many times as many groups or returns."""
    least = None
    chains = []
    for units in range(1, 2 * c + 2 + sum(slow_primes(quotient))):
        if quotient % units == 0:
            factors = slow_primes(quotient // units)
            steps = abs(c + 1 - units) + sum(factors)
            if least is None or steps <= least:
                chains = chains if steps == least else []
                least = steps
                chains.append(written_chain(word, max(0, c + 1 - units), max(0, units - 1 - c), factors, new_c))
    return min(chains)


class TryingTest(unittest.TestCase):
    def test_all_pairs_of_small_forms(self):
        chains = first_chains(7)
        forms = [wanted for steps in range(ENOUGH + 1) for wanted in forms_with(steps)]
        small = small_forms(2)
        for first in small:
            found = {}
            for wanted, chain in chains.items():
                found.setdefault(joined(first, wanted), []).append(chain)
            reached = {joined(first, wanted) for wanted in forms}
            for second in small:
                chain = remainder(first, second)
                if second in found:
                    self.assertEqual(chain, min(found[second], key=lambda each: (len(each), each)), (first, second))
                elif second in reached:
                    self.assertTrue(7 < len(chain) <= ENOUGH, (first, second, chain))
                    self.assertEqual(joined(first, form(chain)), second)
                else:
                    self.assertIsNone(chain, (first, second))

    def test_pairs_with_greater_factors(self):
        # These forms have the same b and a, so most of them lead to each other.
        forms = [wanted for steps in range(15) for wanted in forms_with(steps) if wanted[0] != "keep"]
        for c in range(4):
            first = ("lf", 1, 0, 2, c)
            found = {}
            for wanted in forms:
                found.setdefault(joined(first, wanted), []).append(nth_shortest(wanted, 0))
            for k in range(1, 33):
                for second in [("cr", 1, 0, k), ("lf", 1, 0, k, 1)]:
                    chain = remainder(first, second)
                    if k == 2 and second[0] == "lf":
                        self.assertEqual(chain, ["U", "", "D", "DD"][c])
                    elif second in found:
                        wanted = min(found[second], key=lambda each: (len(each), each))
                        self.assertEqual(chain, wanted, (first, second))
                    else:
                        self.assertTrue(chain is None or len(chain) > 14, (first, second, chain))
                        self.assertIs(chain is None, k % 2 == 1)

    def test_texts(self):
        texts = sign_texts(4)
        chains = chains_up_to(3)
        for first in chains:
            for second in chains:
                between = remainder(form(first), form(second))
                if between is not None:
                    for text in texts:
                        self.assertEqual(slow_convert(slow_convert(text, first), between), slow_convert(text, second))


class EachKindTest(unittest.TestCase):
    def test_from_the_empty_chain(self):
        for wanted in small_forms(3) + [("keep", 900, 1000), ("lf", 3, 4, 999999000, 5), ("cr", 0, 1, 2 ** 29)]:
            self.assertEqual(remainder(("keep", 0, 0), wanted), nth_shortest(wanted, 0))

    def test_from_a_form_to_itself(self):
        for wanted in small_forms(3) + [("keep", 1000, 1000), ("lf", 500, 500, 2 ** 29, 500), ("cr", 9, 9, BILLION)]:
            self.assertEqual(remainder(wanted, wanted), "")

    def test_back_to_the_original(self):
        for wanted in small_forms(3):
            self.assertEqual(remainder(wanted, ("keep", 0, 0)), undoing(wanted))

    def test_from_kept_groups(self):
        self.assertEqual(remainder(("keep", 2, 3), ("keep", 2, 5)), "UU")
        self.assertEqual(remainder(("keep", 2, 3), ("keep", 2, 1)), "DD")
        self.assertEqual(remainder(("keep", 2, 3), ("keep", 3, 5)), "DDDDUUUUU")
        self.assertIsNone(remainder(("keep", 2, 3), ("keep", 1, 3)))
        self.assertEqual(remainder(("keep", 2, 3), ("cr", 2, 2, 4)), "DMUMUN")
        self.assertEqual(remainder(("keep", 2, 3), ("lf", 4, 1, 1, 2)), "DDDDDUMUU")
        self.assertIsNone(remainder(("keep", 2, 3), ("lf", 0, 9, 6, 2)))

    def test_from_equal_groups(self):
        first = ("lf", 1, 2, 3, 4)
        self.assertEqual(remainder(first, ("lf", 1, 2, 3, 6)), "UU")
        self.assertEqual(remainder(first, ("lf", 1, 2, 3, 1)), "DDD")
        self.assertEqual(remainder(first, ("cr", 1, 2, 15)), "N")
        self.assertEqual(remainder(first, ("cr", 1, 2, 3)), "DDDDN")
        self.assertEqual(remainder(first, ("lf", 1, 2, 30, 1)), "MUMU")
        for second in [("keep", 1, 2), ("lf", 0, 2, 3, 4), ("lf", 1, 3, 3, 4), ("lf", 1, 2, 1, 4), ("lf", 1, 2, 4, 4),
                       ("cr", 2, 2, 3), ("cr", 1, 1, 3), ("cr", 1, 2, 2)]:
            self.assertIsNone(remainder(first, second))

    def test_from_returns(self):
        first = ("cr", 1, 2, 3)
        self.assertEqual(remainder(first, ("cr", 1, 2, 6)), "MUN")
        self.assertEqual(remainder(first, ("lf", 1, 2, 3, 2)), "MUU")
        self.assertEqual(remainder(first, ("lf", 1, 2, 36, 1)), "MUMUMUUMU")
        for second in [("keep", 1, 2), ("cr", 1, 2, 1), ("cr", 1, 2, 4), ("cr", 0, 2, 3), ("lf", 1, 0, 3, 0)]:
            self.assertIsNone(remainder(first, second))

    def test_ties_of_several_forms(self):
        # "UUUN" and "UUUM" do the same, too, but come later.
        self.assertEqual(remainder(("lf", 0, 0, 1, 0), ("cr", 0, 0, 4)), "UMUN")
        self.assertEqual(remainder(("lf", 0, 0, 1, 0), ("lf", 0, 0, 4, 0)), "UMUM")
        # With a D less, the group has one unit more.
        self.assertEqual(remainder(("lf", 0, 0, 5, 2), ("cr", 0, 0, 10)), "DN")
        self.assertEqual(remainder(("lf", 0, 0, 1, 1), ("cr", 0, 0, 4)), "MUN")


class GreatTest(unittest.TestCase):
    def test_2000_steps(self):
        self.assertEqual(remainder(("keep", 0, 2000), ("keep", 2000, 0)), "D" * 4000)
        self.assertEqual(remainder(("keep", 1000, 1000), ("keep", 1000, 0)), "D" * 1000)
        self.assertIsNone(remainder(("keep", 1000, 1000), ("keep", 999, 1000)))
        self.assertEqual(remainder(("lf", 0, 0, 1, 1999), ("lf", 0, 0, 1, 0)), "D" * 1999)
        self.assertEqual(remainder(("lf", 0, 0, 1, 1999), ("cr", 0, 0, 1)), "D" * 1999 + "N")
        # 2000 units of each group are there already.
        self.assertEqual(remainder(("lf", 0, 0, 1, 1999), ("cr", 0, 0, BILLION)),
                         "M" + "UM" * 5 + "UUUUM" * 5 + "UUUUN")
        self.assertEqual(remainder(("keep", 900, 1000), ("cr", 901, 900, 2 ** 29)),
                         "D" * 1001 + "U" * 900 + "MU" * 29 + "N")

    def test_many_divisors(self):
        # These numbers have more divisors than all others up to 10 ** 9, or are powers.
        for quotient in [735134400, 821620800, 931170240, 2 ** 29, 3 ** 18, 10 ** 9, 6 ** 11, 997 * 991, 1999, 1]:
            for c in [0, 1, 2, 3, 7, 40, 300, 1200]:
                for word in ["lf", "cr"]:
                    second = (word, 2, 1, quotient) + ((3,) if word == "lf" else ())
                    first = ("lf", 2, 1, 1, c)
                    chain = remainder(first, second)
                    if quotient > 1 or word == "cr":
                        self.assertEqual(chain, slow_from_groups(c, word, quotient, 3), (first, second))
                    else:
                        self.assertEqual(chain, "D" * (c - 3) + "U" * (3 - c))
                    self.assertEqual(joined(first, form(chain)), second)

    def test_drawn_forms(self):
        drawn = random.Random(3)
        for _ in range(300):
            first_k = drawn.choice([1, 2, 6, 30, 35, 1024, 2310, 30030])
            k = drawn.choice([first_k * drawn.randrange(1, 2000), drawn.choice([2, 4, 9, 210]) * 997 + 1, first_k])
            b, a, c, new_c = [drawn.randrange(100) for _ in range(4)]
            if sum(slow_primes(k)) > 1500:
                continue
            self.check_drawn(first_k, k, (b, a), c, new_c)

    def check_drawn(self, first_k, k, ends, c, new_c):
        """Check the chains between great forms with the same b and a."""
        for second in [("lf", *ends, k, new_c), ("cr", *ends, k)]:
            more = new_c if second[0] == "lf" else 0
            chain = remainder(("lf", *ends, first_k, c), second)
            other = remainder(("cr", *ends, first_k), second)
            if k % first_k:
                self.assertEqual([chain, other], [None, None])
                continue
            quotient = k // first_k
            if (second[0], quotient) == ("lf", 1):
                self.assertEqual(chain, "D" * (c - new_c) + "U" * (new_c - c))
            else:
                self.assertEqual(chain, slow_from_groups(c, second[0], quotient, more))
            if (second[0], quotient) == ("cr", 1):
                self.assertEqual(other, "")
            else:
                self.assertEqual(other, written_chain(second[0], 0, 0, slow_primes(quotient), more))

    def test_each_chain_is_a_shortest_one_of_its_form(self):
        drawn = random.Random(4)
        for _ in range(200):
            first = ("keep", drawn.randrange(1000), drawn.randrange(1000))
            second = drawn.choice([("keep", first[1] + drawn.randrange(3), drawn.randrange(1000)),
                                   ("lf", first[1], drawn.randrange(500), drawn.randrange(1, 200), 17),
                                   ("cr", first[1] + 1, drawn.randrange(500), drawn.randrange(1, 200))])
            chain = remainder(first, second)
            self.assertEqual(joined(first, form(chain)), second)
            self.assertEqual(len(chain), fewest_steps(form(chain)))


class ErrorsTest(unittest.TestCase):
    def test_form_check(self):
        for wanted in NO_FORMS:
            for other in [("keep", 0, 0), ("lf", 1, 1, 1, 1), ("cr", 0, 0, 1), (), ("cr", GREAT, GREAT, 0)]:
                check_error(self, InvalidForm, None, remainder, wanted, other)
                check_error(self, InvalidForm, None, remainder, other, wanted)
