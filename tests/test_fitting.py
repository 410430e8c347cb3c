"""Points 5, 7 and 9: forms that fit pairs of runs."""

import itertools
import random
import unittest

from lineends.converting import size
from lineends.counting import forms_with
from lineends.errors import InvalidForm, InvalidRun
from lineends.fitting import fits, simplest
from lineends.forms import apply_form, form
from lineends.shortest import fewest_steps
from tests.helpers import (GREAT, INVALID_RUNS, NO_FORMS, chains_up_to, check_error, read, sign_texts, slow_convert,
                           slow_primes, small_forms)

# All forms with at most so many steps are tried.
STEPS = 11
FORMS = [list(forms_with(steps)) for steps in range(STEPS + 1)]


def slow_units(run, b, a):
    """The units of a run."""
    groups, rest = run
    return sum(many * (max(0, j - b) + a + 1) for many, j in groups) + rest


def slow_simplest(pairs, top):
    """The simplest forms that fit, of all those with b and a up to top, for pairs one of which has characters."""
    first, (groups, rest) = next(pair for pair in pairs if size(pair[0]) > 0)
    found = {}
    for b, a in itertools.product(range(top + 1), repeat=2):
        wanted = ("keep", b, a)
        found.setdefault(b + a, []).append(wanted)
        units = slow_units(first, b, a)
        number = groups[0][0] if groups else rest
        if number and number % units == 0:
            k = number // units
            wanted = ("lf", b, a, k, groups[0][1]) if groups else ("cr", b, a, k)
            found.setdefault(b + a + 1 + sum(slow_primes(k)) + sum(wanted[4:]), []).append(wanted)
    for steps in sorted(found):
        fitting = [wanted for wanted in found[steps] if all(apply_form(run, wanted) == made for run, made in pairs)]
        if fitting:
            return sorted(fitting)
    return []


class FitsTest(unittest.TestCase):
    def test_all_small_runs_and_forms(self):
        runs = [read(text) for text in sign_texts(4)]
        for wanted in small_forms(2):
            for run in runs:
                made = apply_form(run, wanted)
                for other in runs[::3] + [made]:
                    self.assertIs(fits([(run, other)], wanted), made == other, (run, other, wanted))

    def test_small_chains(self):
        texts = sign_texts(3)
        for chain in chains_up_to(3):
            pairs = [(read(text), read(slow_convert(text, chain))) for text in texts]
            for other in ["", "U", "D", "M", "N", "UM", "MU", "DN", "UMU", chain]:
                self.assertIs(fits(pairs, form(other)), form(chain) == form(other) or all(
                    slow_convert(text, chain) == slow_convert(text, other) for text in texts), (chain, other))

    def test_each_pair_counts(self):
        run, made = ([(2, 3)], 1), ([(2, 1)], 1)
        self.assertIs(fits([(run, made)] * 5, ("keep", 2, 0)), True)
        for at in range(5):
            pairs = [(run, made)] * 5
            pairs[at] = (run, ([(2, 1)], 2))
            self.assertIs(fits(pairs, ("keep", 2, 0)), False)

    def test_no_pairs(self):
        for wanted in small_forms(2) + [("cr", GREAT, GREAT, GREAT)]:
            self.assertIs(fits([], wanted), True)

    def test_great_numbers(self):
        g = GREAT
        run = ([(g, g), (g - 1, g - 1), (5, 0)], g)
        self.assertIs(fits([(run, ([(g, g + 1), (g + 4, g)], g))], ("keep", g - 1, g)), True)
        self.assertIs(fits([(run, ([(g, g + 1), (g + 5, g)], g))], ("keep", g - 1, g)), False)
        units = g * 3 + (g - 1) * 2 + 5 * 2 + g
        self.assertIs(fits([(run, ([(g * units, g)], 0))], ("lf", g - 1, 1, g, g)), True)
        self.assertIs(fits([(run, ([(g * units, g)], 1))], ("lf", g - 1, 1, g, g)), False)
        self.assertIs(fits([(run, ([(g * units - 1, g)], 0))], ("lf", g - 1, 1, g, g)), False)
        self.assertIs(fits([(run, ([], g * units)), (([], 0), ([], 0))], ("cr", g - 1, 1, g)), True)
        self.assertIs(fits([(run, ([], g * units)), (([], 1), ([], 1))], ("cr", g - 1, 1, g)), False)

    def test_runs_of_40_tuples(self):
        groups = [(at + 1, at % 2 * GREAT) for at in range(40)]
        made = [(at + 1, at % 2 * (GREAT - 7) + 2) for at in range(40)]
        self.assertIs(fits([((groups, 3), (made, 3))], ("keep", 7, 2)), True)
        self.assertIs(fits([((groups, 3), (made, 3))], ("keep", 6, 1)), False)


class SimplestTest(unittest.TestCase):
    def check_pairs(self, pairs):
        """Check the simplest forms against all forms with at most so many steps."""
        found = simplest(pairs)
        for steps, forms in enumerate(FORMS):
            fitting = [wanted for wanted in forms if all(apply_form(run, wanted) == made for run, made in pairs)]
            if fitting:
                self.assertEqual(found, fitting, pairs)
                return
        for wanted in found:
            self.assertGreater(fewest_steps(wanted), STEPS)
            self.assertIs(fits(pairs, wanted), True)

    def test_one_pair_of_all_small_runs(self):
        runs = [read(text) for text in sign_texts(3)]
        for run in runs:
            for made in runs:
                self.check_pairs([(run, made)])

    def test_one_pair_of_some_greater_runs(self):
        for run in [([(1, 3)], 0), ([(2, 1)], 2), ([(1, 0), (1, 2)], 1), ([], 3), ([(3, 0)], 0), ([(1, 4), (1, 2)], 0)]:
            for wanted in small_forms(2):
                self.check_pairs([(run, apply_form(run, wanted))])

    def test_pairs_of_one_form_and_the_same_with_one_number_changed(self):
        drawn = random.Random(5)
        runs = [read(text) for text in sign_texts(5)]
        for _ in range(150):
            wanted = drawn.choice(drawn.choice(FORMS[:9]))
            pairs = [(run, apply_form(run, wanted)) for run in drawn.choices(runs, k=drawn.randrange(1, 6))]
            self.check_pairs(pairs)
            at = drawn.randrange(len(pairs))
            run, (groups, rest) = pairs[at]
            changed = [(groups, rest + 1)]
            if groups:
                changed.append(([(groups[0][0] + 1, groups[0][1])] + groups[1:], rest))
                changed.append(([(groups[0][0], groups[0][1] + 7)] + groups[1:], rest))
            for made in changed:
                self.check_pairs(pairs[:at] + [(run, made)] + pairs[at + 1:])

    def test_pairs_that_contradict_each_other(self):
        self.assertEqual(simplest([(([], 1), ([], 2)), (([], 1), ([], 3))]), [])
        self.assertEqual(simplest([(([(1, 0)], 0), ([(1, 1)], 0)), (([(1, 1)], 0), ([(1, 0)], 0))]), [])
        self.assertEqual(simplest([(([(1, 0)], 0), ([(2, 1)], 0)), (([(1, 1)], 0), ([(2, 0)], 0))]), [])
        self.assertEqual(simplest([(([(1, 0)], 0), ([(2, 0)], 0)), (([(1, 0)], 0), ([], 2))]), [])
        self.assertEqual(simplest([(([], 2), ([], 4)), (([(1, 1)], 0), ([(1, 1)], 0))]), [])

    def test_what_no_form_makes(self):
        for pair in [(([], 0), ([], 1)), (([], 0), ([(1, 0)], 0)), (([], 1), ([], 0)), (([(1, 0)], 0), ([], 0)),
                     (([], 2), ([], 3)), (([], 2), ([(3, 0)], 0)), (([], 1), ([(1, 0), (1, 1)], 0)),
                     (([], 1), ([(1, 0)], 1)), (([(1, 0), (1, 1)], 0), ([(1, 1), (1, 0)], 0)),
                     (([(1, 0)], 1), ([(1, 0)], 2)), (([(2, 0)], 0), ([(1, 1), (1, 2)], 0))]:
            self.assertEqual(simplest([pair]), [], pair)
            self.assertEqual(simplest([(([], 0), ([], 0)), pair, (([], 1), ([], 1))]), [], pair)

    def test_no_pairs(self):
        self.assertEqual(simplest([]), [("keep", 0, 0)])

    def test_runs_without_characters(self):
        self.assertEqual(simplest([(([], 0), ([], 0))]), [("keep", 0, 0)])
        self.assertEqual(simplest([(([], 0), ([], 0))] * 10), [("keep", 0, 0)])
        self.assertEqual(simplest([(([], 0), ([], 0)), (([], 1), ([], 2))]), [("cr", 0, 0, 2)])
        self.assertEqual(simplest([(([], 1), ([(2, 3)], 0)), (([], 0), ([], 0))]), [("lf", 0, 0, 2, 3)])
        self.assertEqual(simplest([(([], 0), ([], 0)), (([(1, 0)], 0), ([(1, 2)], 0))]), [("keep", 0, 2)])

    def test_groups_without_a_rest_and_rests_without_groups(self):
        # A rest alone tells k, groups tell b and a.
        self.assertEqual(simplest([(([(1, 3)], 0), ([], 12)), (([], 1), ([], 3))]), [("cr", 0, 0, 3)])
        self.assertEqual(simplest([(([(1, 3)], 0), ([], 12)), (([], 1), ([], 2)), (([(1, 0)], 0), ([], 14))]), [])
        self.assertEqual(simplest([(([(1, 3)], 0), ([], 12)), (([], 1), ([], 2)), (([(1, 1)], 0), ([], 8))]),
                         [("cr", 0, 2, 2)])
        self.assertEqual(simplest([(([(1, 3)], 0), ([], 8)), (([], 1), ([], 2)), (([(1, 1)], 0), ([], 6))]),
                         [("cr", 2, 2, 2)])

    def test_ascending_order_of_several_forms(self):
        self.assertEqual(simplest([(([(1, 0)], 0), ([(6, 0)], 0))]), [("lf", 0, 1, 3, 0), ("lf", 0, 2, 2, 0)])
        self.assertEqual(simplest([(([(1, 0)], 0), ([], 12))]), [("cr", 0, 1, 6), ("cr", 0, 2, 4), ("cr", 0, 3, 3)])
        self.assertEqual(simplest([(([(1, 2)], 0), ([], 4))]), [("cr", 0, 1, 1)])
        self.assertEqual(simplest([(([(1, 3)], 0), ([], 2))]), [("cr", 2, 0, 1)])
        self.assertEqual(simplest([(([(1, 4)], 0), ([], 8))]), [("cr", 0, 3, 1), ("cr", 1, 0, 2)])

    def test_sizes_of_60(self):
        for pairs in [[(([(1, 59)], 0), ([(1, 0)], 0))], [(([(1, 0)], 0), ([(1, 59)], 0))],
                      [(([(1, 59)], 0), ([(1, 59)], 0))], [(([], 60), ([], 60))], [(([(30, 1)], 0), ([(30, 0)], 30))],
                      [(([(1, 0)], 0), ([(60, 0)], 0))], [(([(1, 0)], 0), ([], 60))], [(([], 1), ([], 59))],
                      [(([(1, 58)], 1), ([], 60))], [(([(1, 58)], 1), ([(2, 29)], 0))],
                      [(([(10, 0), (1, 39), (2, 4)], 0), ([], 48))], [(([(1, 40)], 19), ([(20, 2)], 0))],
                      [(([(1, 20)], 0), ([], 60)), (([(1, 10)], 0), ([], 30))],
                      [(([(1, at)], 0), ([], 2 * max(0, at - 7) + 8)) for at in range(0, 30, 3)],
                      [(([(1, at)], 2), ([(1, max(0, at - 50) + 3)], 2)) for at in range(41, 56)]]:
            self.assertEqual(simplest(pairs), slow_simplest(pairs, 60), pairs)

    def test_ten_drawn_pairs_with_sizes_up_to_60(self):
        drawn = random.Random(6)
        for _ in range(25):
            runs = [read("".join(drawn.choices("^^^\n", k=drawn.randrange(1, 30)))) for _ in range(10)]
            b = drawn.randrange(9)
            wanted = drawn.choice([("keep", b, 0), ("keep", b, 2), ("lf", b, 0, 1, 1), ("cr", b, 1, 1),
                                   ("cr", b, 0, 2)])
            pairs = [(run, apply_form(run, wanted)) for run in runs]
            self.assertEqual(simplest(pairs), slow_simplest(pairs, 30))
            self.assertLessEqual(fewest_steps(simplest(pairs)[0]), fewest_steps(wanted))
            self.assertIs(fits(pairs, wanted), True)

    def test_the_kinds_of_values(self):
        found = simplest([(([(1, 4)], 0), ([], 8))])
        self.assertIs(type(found), list)
        self.assertEqual([type(each) for each in found], [tuple, tuple])


class ErrorsTest(unittest.TestCase):
    def test_the_index_of_the_pair(self):
        good = ([(1, 2)], 0)
        for run, _ in INVALID_RUNS:
            for pair in [(run, good), (good, run), (run, run)]:
                for at in range(4):
                    pairs = [(good, good)] * at + [pair] + [(good, good)] * 2
                    check_error(self, InvalidRun, at, fits, pairs, ("keep", 0, 0))
                    check_error(self, InvalidRun, at, simplest, pairs)

    def test_the_first_of_several_pairs(self):
        good, bad = ([(1, 2)], 0), ([], -1)
        for pairs in [[(good, bad), (bad, good)], [(bad, good), (good, bad)], [(bad, bad)] * 3]:
            check_error(self, InvalidRun, 1, fits, [(good, good)] + pairs, ("keep", 0, 0))
            check_error(self, InvalidRun, 1, simplest, [(good, good)] + pairs)

    def test_pairs_that_do_not_fit_before_the_wrong_one(self):
        pairs = [(([], 1), ([], 2)), (([], 1), ([], 3)), (([], 0), ([(0, 0)], 0))]
        check_error(self, InvalidRun, 2, fits, pairs, ("cr", 0, 0, 3))
        check_error(self, InvalidRun, 2, simplest, pairs)

    def test_the_pairs_are_checked_before_the_form(self):
        for wanted in NO_FORMS:
            check_error(self, InvalidRun, 1, fits, [(([], 0), ([], 0)), (([], -1), ([], 0))], wanted)

    def test_form_check(self):
        for wanted in NO_FORMS:
            for pairs in [[], [(([], 0), ([], 0))], [(([], 1), ([], 2)), (([], 1), ([], 3))]]:
                check_error(self, InvalidForm, None, fits, pairs, wanted)
