"""Points 5, 7 and 8: what stays as it is, and what can be undone."""

import unittest

from lineends.converting import convert_run, runs_of
from lineends.errors import InvalidForm, InvalidRun
from lineends.forms import apply_form, form, joined, powered
from lineends.shortest import nth_shortest
from lineends.staying import is_idempotent, stays, undoing
from tests.helpers import (GREAT, INVALID_RUNS, NO_FORMS, chains_up_to, check_error, read, sign_texts, slow_convert,
                           small_forms)


class StaysTest(unittest.TestCase):
    def test_all_small_runs_and_forms(self):
        for text in sign_texts(6):
            run = read(text)
            for wanted in small_forms(2):
                self.assertIs(stays(run, wanted), apply_form(run, wanted) == run, (run, wanted))

    def test_all_small_chains(self):
        for chain in chains_up_to(4):
            wanted = form(chain)
            for text in sign_texts(4):
                self.assertIs(stays(read(text), wanted), slow_convert(text, chain) == text, (text, chain))

    def test_neighbours(self):
        self.assertIs(stays(([(5, 1), (2, 2)], 3), ("keep", 1, 1)), True)
        self.assertIs(stays(([(5, 1), (2, 0)], 3), ("keep", 1, 1)), False)
        self.assertIs(stays(([(1, 1), (1, 0)], 0), ("keep", 1, 0)), False)
        self.assertIs(stays(([(1, 0), (1, 1), (1, 0)], 2), ("keep", 1, 0)), False)
        self.assertIs(stays(([(1, 0), (1, 1), (1, 0)], 2), ("keep", 0, 0)), True)
        self.assertIs(stays(([(2, 3), (1, 5), (2, 3)], 2), ("keep", 3, 3)), True)
        self.assertIs(stays(([(2, 0)], 0), ("keep", 5, 0)), True)
        self.assertIs(stays(([(2, 0)], 0), ("keep", 0, 1)), False)

    def test_a_rest_alone(self):
        self.assertIs(stays(([], 7), ("keep", 3, 5)), True)
        self.assertIs(stays(([], 7), ("cr", 3, 5, 1)), True)
        self.assertIs(stays(([], 7), ("cr", 3, 5, 2)), False)
        self.assertIs(stays(([], 7), ("lf", 3, 5, 1, 0)), False)

    def test_groups_alone(self):
        self.assertIs(stays(([(7, 0)], 0), ("lf", 3, 0, 1, 0)), True)
        self.assertIs(stays(([(7, 0)], 0), ("lf", 3, 1, 1, 0)), False)
        self.assertIs(stays(([(7, 3)], 0), ("lf", 3, 0, 1, 3)), True)
        self.assertIs(stays(([(7, 3)], 0), ("lf", 2, 0, 1, 3)), False)
        self.assertIs(stays(([(7, 3)], 1), ("lf", 3, 0, 1, 3)), False)
        self.assertIs(stays(([(7, 0)], 0), ("cr", 0, 0, 1)), False)

    def test_the_run_without_characters_always_stays(self):
        for wanted in small_forms(3) + [("lf", GREAT, GREAT, GREAT, GREAT), ("cr", GREAT, GREAT, GREAT)]:
            self.assertIs(stays(([], 0), wanted), True)

    def test_great_numbers(self):
        run = ([(GREAT, GREAT), (1, GREAT - 1), (GREAT, GREAT)], GREAT)
        self.assertIs(stays(run, ("keep", GREAT - 1, GREAT - 1)), True)
        self.assertIs(stays(run, ("keep", GREAT, GREAT)), False)
        self.assertIs(stays(run, ("keep", GREAT - 1, GREAT - 2)), False)
        self.assertIs(stays(([(GREAT, GREAT)], 0), ("lf", GREAT, 0, 1, GREAT)), True)
        self.assertIs(stays(([(GREAT, GREAT)], 0), ("lf", GREAT, 0, 2, GREAT)), False)
        self.assertIs(stays(([], GREAT), ("cr", GREAT, GREAT, 1)), True)

    def test_returned_values_of_any_size(self):
        run = convert_run(([(1, GREAT)], 0), "M" + "UM" * 1500)
        self.assertIs(stays(run, ("lf", 0, 0, 1, 0)), True)
        self.assertIs(stays(run, powered(("keep", 1, 0), 10 ** 1000)), True)
        self.assertIs(stays(run, form("UM" * 60)), False)
        long = runs_of("^\n\n" * 30000)[0]
        self.assertIs(stays(long, ("keep", 0, 0)), True)
        self.assertIs(stays(long, ("keep", 1, 0)), False)
        self.assertIs(stays(convert_run(long, "D"), ("keep", 1, 0)), True)

    def test_the_run_is_checked_before_the_form(self):
        for run, value in INVALID_RUNS:
            for wanted in [("keep", 0, 0), ("cr", 0, 0, 0), ()]:
                check_error(self, InvalidRun, value, stays, run, wanted)

    def test_form_check(self):
        for wanted in NO_FORMS:
            for run in [([], 0), ([(1, 2)], 3)]:
                check_error(self, InvalidForm, None, stays, run, wanted)


class IsIdempotentTest(unittest.TestCase):
    def test_all_small_forms(self):
        for wanted in small_forms(4):
            self.assertIs(is_idempotent(wanted), joined(wanted, wanted) == wanted, wanted)

    def test_all_small_chains(self):
        texts = sign_texts(5)
        for chain in chains_up_to(3):
            once = [slow_convert(text, chain) for text in texts]
            twice = [slow_convert(text, chain) for text in once]
            self.assertIs(is_idempotent(form(chain)), once == twice, chain)

    def test_each_kind(self):
        self.assertIs(is_idempotent(("keep", 0, 0)), True)
        self.assertIs(is_idempotent(("keep", 1, 2)), False)
        self.assertIs(is_idempotent(("lf", 2, 5, 1, 2)), False)
        self.assertIs(is_idempotent(("lf", 2, 0, 1, 2)), True)
        self.assertIs(is_idempotent(("lf", 2, 0, 1, 3)), False)
        self.assertIs(is_idempotent(("cr", 2, 3, 1)), True)
        self.assertIs(is_idempotent(("cr", 2, 3, 2)), False)

    def test_great_numbers(self):
        self.assertIs(is_idempotent(("keep", GREAT, GREAT)), True)
        self.assertIs(is_idempotent(("keep", GREAT, GREAT - 1)), False)
        self.assertIs(is_idempotent(("lf", GREAT, 0, 1, GREAT)), True)
        self.assertIs(is_idempotent(("lf", GREAT, 0, GREAT, GREAT)), False)
        self.assertIs(is_idempotent(("cr", GREAT, GREAT, 1)), True)
        self.assertIs(is_idempotent(powered(("cr", GREAT, GREAT, GREAT), 60)), False)

    def test_form_check(self):
        for wanted in NO_FORMS:
            check_error(self, InvalidForm, None, is_idempotent, wanted)


class UndoingTest(unittest.TestCase):
    def test_the_first_chain_that_makes_the_originals_again(self):
        texts = sign_texts(5)
        chains = chains_up_to(4)
        for wanted in small_forms(2):
            before = nth_shortest(wanted, 0)
            made = [slow_convert(text, before) for text in texts]
            found = [chain for chain in chains if all(slow_convert(after, chain) == text
                                                      for text, after in zip(texts, made))]
            self.assertEqual(undoing(wanted), found[0] if found else None, wanted)

    def test_none_exactly_where_two_texts_become_the_same(self):
        texts = sign_texts(5)
        for wanted in small_forms(3):
            made = [repr(apply_form(read(text), wanted)) for text in texts]
            self.assertIs(undoing(wanted) is None, len(set(made)) < len(made), wanted)

    def test_each_kind(self):
        self.assertEqual([undoing(("keep", 0, a)) for a in range(4)], ["", "D", "DD", "DDD"])
        for wanted in [("keep", 1, 0), ("keep", 1, 1), ("keep", 3000, 3000), ("lf", 0, 0, 1, 0), ("lf", 0, 3, 1, 0),
                       ("lf", 3000, 3000, 3000, 3000), ("cr", 0, 0, 1), ("cr", 3000, 3000, 3000)]:
            self.assertIs(undoing(wanted), None)

    def test_3000_steps(self):
        chain = undoing(("keep", 0, 3000))
        self.assertEqual(chain, "D" * 3000)
        self.assertEqual(joined(("keep", 0, 3000), form(chain)), ("keep", 0, 0))

    def test_form_check(self):
        for wanted in NO_FORMS:
            check_error(self, InvalidForm, None, undoing, wanted)
