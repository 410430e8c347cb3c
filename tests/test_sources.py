"""Points 4, 5, 7 and 8: the runs of which a form makes a run."""

import itertools
import unittest

from lineends.converting import convert_run, size
from lineends.errors import InvalidForm, InvalidRun
from lineends.forms import apply_form, form
from lineends.sources import count_sources, sources
from tests.helpers import (GREAT, INVALID_RUNS, NO_FORMS, check_error, first_of, read, sign_texts, slow_convert,
                           small_forms, written)

# The greatest length of the texts that are tried.
LENGTH = 9


def texts_by_result(wanted):
    """All texts up to the length, in string order, by the text that a form makes of them."""
    found = {}
    for text in sorted(sign_texts(LENGTH)):
        found.setdefault(written(apply_form(read(text), wanted)), []).append(text)
    return found


class TryingTest(unittest.TestCase):
    def check_all(self, wanted, results):
        """Check the sources of all results against those found by trying."""
        found = texts_by_result(wanted)
        for result in results:
            run = read(result)
            texts = [written(source) for source in sources(run, wanted)]
            self.assertEqual([text for text in texts if len(text) <= LENGTH], found.get(result, []), (run, wanted))
            self.assertEqual(texts, sorted(set(texts)))
            self.assertEqual(count_sources(run, wanted), len(texts), (run, wanted))
            for text in texts:
                self.assertEqual(apply_form(read(text), wanted), run)

    def test_small_forms(self):
        for wanted in small_forms(2):
            self.check_all(wanted, sign_texts(5))

    def test_greater_numbers_than_in_the_runs(self):
        for wanted in [("keep", 5, 1), ("keep", 4, 3), ("keep", 0, 6), ("lf", 5, 1, 1, 0), ("lf", 2, 5, 2, 1),
                       ("lf", 0, 3, 3, 4), ("cr", 6, 0, 1), ("cr", 1, 4, 2), ("cr", 3, 3, 1), ("cr", 0, 9, 9)]:
            self.check_all(wanted, sign_texts(6))

    def test_chains(self):
        for chain in ["", "D", "DDU", "M", "UMUN", "DUMU", "N", "DDN"]:
            found = {}
            for text in sorted(sign_texts(8)):
                found.setdefault(slow_convert(text, chain), []).append(text)
            for result in sign_texts(4):
                texts = [written(source) for source in sources(read(result), form(chain))]
                self.assertEqual([text for text in texts if len(text) <= 8], found.get(result, []), (result, chain))

    def test_the_kinds_of_values(self):
        for wanted in [("keep", 2, 0), ("lf", 1, 0, 1, 0)]:
            for source in sources(([(3, 0)], 0), wanted):
                self.assertIs(type(source), tuple)
                self.assertIs(type(source[0]), list)
                self.assertEqual({type(group) for group in source[0]} - {tuple}, set())
                self.assertIs(type(source[1]), int)
                self.assertEqual(source, read(written(source)))


class NoSourcesTest(unittest.TestCase):
    def check_none(self, run, wanted):
        self.assertEqual(count_sources(run, wanted), 0, (run, wanted))
        self.assertEqual(list(sources(run, wanted)), [], (run, wanted))

    def test_keep(self):
        self.check_none(([(1, 0)], 0), ("keep", 0, 1))
        self.check_none(([(4, 3), (1, 1)], 2), ("keep", GREAT, 2))
        self.check_none(([(1, 1)] + [(20, 0), (1, 1)], 0), ("keep", GREAT, 1))
        self.check_none(([(3, 0), (1, 50)], 0), ("keep", GREAT, GREAT))

    def test_lf(self):
        self.check_none(([(3, 0)], 0), ("lf", GREAT, 0, 2, 0))
        self.check_none(([(3, 0)], 0), ("lf", 0, 0, GREAT, 0))
        self.check_none(([(2, 1)], 0), ("lf", GREAT, 0, 1, 0))
        self.check_none(([(2, 1)], 0), ("lf", GREAT, 0, 1, GREAT))
        self.check_none(([(30, 0)], 1), ("lf", GREAT, 0, 1, 0))
        self.check_none(([], 30), ("lf", GREAT, 0, 1, 0))
        self.check_none(([(15, 0), (1, 1), (15, 0)], 0), ("lf", GREAT, 0, 1, 0))

    def test_cr(self):
        self.check_none(([], 59), ("cr", GREAT, 0, 2))
        self.check_none(([], 59), ("cr", GREAT, 0, GREAT))
        self.check_none(([(1, 0)], 58), ("cr", GREAT, 0, 1))
        self.check_none(([(60, 0)], 0), ("cr", GREAT, 0, 1))

    def test_great_runs_without_sources(self):
        self.check_none(([(GREAT, 1)], 0), ("keep", 1, 2))
        self.check_none(([(GREAT, 1)], GREAT), ("lf", 0, 0, 1, 1))
        self.check_none(([(GREAT, 1)], GREAT), ("cr", 0, 0, 1))


class SmallestTest(unittest.TestCase):
    def test_the_run_without_characters_comes_from_itself_alone(self):
        for wanted in small_forms(3) + [("keep", GREAT, GREAT), ("lf", GREAT, GREAT, GREAT, GREAT),
                                        ("cr", GREAT, GREAT, GREAT), ("lf", GREAT, 0, 1, 0), ("cr", GREAT, 0, 1)]:
            self.assertEqual(count_sources(([], 0), wanted), 1)
            self.assertEqual(list(sources(([], 0), wanted)), [([], 0)])

    def test_a_rest_alone(self):
        self.assertEqual(list(sources(([], 5), ("keep", GREAT, GREAT))), [([], 5)])
        self.assertEqual(list(sources(([], 6), ("cr", GREAT, 3, 2))), [([], 3)])
        self.assertEqual(list(sources(([(2, 7)], 0), ("lf", GREAT, 2, 1, 7))), [([], 2)])


class CountTest(unittest.TestCase):
    def test_keep(self):
        self.assertEqual(count_sources(([(500, 0)], 0), ("keep", GREAT, 0)), 10 ** 15000)
        self.assertEqual(count_sources(([(100, 1), (50, 2), (100, 1)], 3), ("keep", 6, 1)), 7 ** 200)
        self.assertEqual(count_sources(([(100, 3), (5, 9)], 3), ("keep", 6, 2)), 1)
        self.assertEqual(count_sources(([(500, 0)], 0), ("keep", 0, 0)), 1)

    def test_all_texts_of_a_size(self):
        # Without b and a, the units of a run are its characters.
        for total in range(0, 501, 50):
            self.assertEqual(count_sources(([], total), ("cr", 0, 0, 1)), 2 ** total)
        self.assertEqual(count_sources(([(250, 1)], 0), ("lf", 0, 0, 5, 1)), 2 ** 50)

    def test_500_units(self):
        for wanted in [("cr", 0, 0, 1), ("cr", 3, 0, 1), ("cr", 0, 2, 1), ("cr", GREAT, 1, 1), ("lf", 2, 499, 1, 0),
                       ("lf", GREAT, 500, 1, 0), ("lf", GREAT, GREAT, 1, 0), ("lf", GREAT, 0, 1, 0)]:
            run = ([], 500) if wanted[0] == "cr" else ([(500, 0)], 0)
            self.assertEqual(count_sources(run, wanted), self.slow_count(500, wanted[1], wanted[2]), wanted)

    def slow_count(self, total, b, a):
        """The number of runs with so many units: sums over all last groups, then over all rests."""
        groups = [1]
        for units in range(1, total + 1):
            found = 0
            for behind in range(1, units + 1):
                choices = 0 if behind < a + 1 else b + 1 if behind == a + 1 else 1
                found += choices * groups[units - behind]
            groups.append(found)
        return sum(groups)

    def test_great_numbers_beside_each_other(self):
        self.assertEqual(count_sources(([(1, 0)], 0), ("lf", GREAT, 0, 1, 0)), GREAT + 2)
        self.assertEqual(count_sources(([], 3), ("cr", GREAT, 1, 1)), GREAT + 3)
        self.assertEqual(count_sources(([(2, 1)], 0), ("keep", GREAT, 1)), 10 ** 60)


class GreatWalksTest(unittest.TestCase):
    def check_walk(self, run, wanted, many):
        """Check the first sources of very many: they are sources, and their texts ascend."""
        before = None
        for source in itertools.islice(sources(run, wanted), many):
            self.assertEqual(apply_form(source, wanted), run)
            if size(source) < 1000:
                text = written(source)
                self.assertTrue(before is None or before < text, (before, text))
                before = text
        self.assertGreater(count_sources(run, wanted), many)

    def test_a_walk_may_stop_early(self):
        self.assertEqual(next(iter(sources(([(60, 0)], 0), ("keep", GREAT, 0)))), ([(60, 0)], 0))
        self.assertEqual(list(itertools.islice(sources(([], 60), ("cr", GREAT, 0, 1)), 4)),
                         [([(60, 0)], 0), ([(59, 0)], 1), ([(59, 0), (1, 1)], 0), ([(59, 0), (1, 2)], 0)])
        self.assertEqual(list(itertools.islice(sources(([(2, 0)], 0), ("lf", GREAT, 1, 1, 0)), 4)),
                         [([(1, 0)], 0), ([(1, 1)], 0), ([], 2), ([(1, 2)], 0)])

    def test_the_first_of_very_many(self):
        for run, wanted in [(([(60, 0)], 0), ("keep", GREAT, 0)), (([(10, 2), (3, 4), (5, 2)], 1), ("keep", GREAT, 2)),
                            (([(60, 0)], 0), ("lf", 0, 0, 1, 0)), (([(30, 1)], 0), ("lf", GREAT, 1, 1, 1)),
                            (([], 60), ("cr", 3, 2, 1)), (([], 60), ("cr", GREAT, 5, 3))]:
            self.check_walk(run, wanted, 3000)

    def test_a_rest_stands_between_groups(self):
        # With 5 units left, a rest of 5 comes behind four returns before a newline, and before five of them.
        found = [written(source) for source in itertools.islice(sources(([], 5), ("cr", 9, 4, 1)), 20)]
        self.assertEqual(found, ["^" * j + "\n" for j in range(5)] + ["^" * 5] + ["^" * j + "\n" for j in range(5, 10)])

    def test_great_numbers_of_returns(self):
        self.assertEqual(list(sources(([(2, 40)], 0), ("keep", GREAT, 30))), [([(2, GREAT + 10)], 0)])
        self.assertEqual(list(sources(([(1, 0), (1, 1)], 2), ("keep", 0, 0))), [([(1, 0), (1, 1)], 2)])
        self.assertEqual(next(iter(sources(([(1, 3), (1, 2), (1, 3)], 1), ("keep", GREAT, 2)))),
                         ([(1, GREAT + 1), (1, 0), (1, GREAT + 1)], 1))

    def test_returned_sources_are_ordinary_runs(self):
        for source in sources(([(2, 40)], 0), ("keep", GREAT, 30)):
            self.assertEqual(size(source), 2 * (GREAT + 11))
            self.assertEqual(convert_run(source, "DDU"), ([(2, GREAT + 9)], 0))
            self.assertEqual(count_sources(source, ("keep", GREAT, GREAT)), 1)

    def test_walks_are_independent(self):
        for run, wanted in [(([(3, 0)], 0), ("keep", 2, 0)), (([(4, 0)], 0), ("lf", 1, 0, 1, 0))]:
            whole = list(sources(run, wanted))
            one, other = iter(sources(run, wanted)), iter(sources(run, wanted))
            for at, source in enumerate(one):
                self.assertEqual(source, whole[at])
                if at % 2 == 0:
                    self.assertEqual(next(other), whole[at // 2])
            self.assertEqual(list(sources(run, wanted)), whole)

    def test_a_walk_does_not_follow_changed_lists(self):
        for wanted in [("keep", 2, 0), ("lf", 1, 0, 1, 0)]:
            whole = list(sources(([(3, 0)], 0), wanted))
            run = ([(3, 0)], 0)
            found = []
            for source in sources(run, wanted):
                found.append((list(source[0]), source[1]))
                source[0].append((1, 99))
                run[0].append((1, 77))
            self.assertEqual(found, whole)


class ErrorsTest(unittest.TestCase):
    def test_the_run_is_checked_before_the_form(self):
        for run, value in INVALID_RUNS:
            for wanted in [("keep", 0, 0), ("lf", 0, 0, 1, 0), ("cr", 0, 0, 0), ()]:
                check_error(self, InvalidRun, value, count_sources, run, wanted)
                check_error(self, InvalidRun, value, first_of(sources), run, wanted)

    def test_form_check(self):
        for wanted in NO_FORMS:
            for run in [([], 0), ([(1, 2)], 3)]:
                check_error(self, InvalidForm, None, count_sources, run, wanted)
                check_error(self, InvalidForm, None, first_of(sources), run, wanted)
