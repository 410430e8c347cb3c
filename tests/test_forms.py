"""Points 6, 7 and 8: forms of chains, and what they do to runs and to each other."""

import unittest

from lineends.converting import convert, convert_run, runs_of
from lineends.errors import InvalidChain, InvalidForm, InvalidNumber, InvalidRun
from lineends.forms import apply_form, commute, form, joined, powered, same
from tests.helpers import GREAT, NO_FORMS, chains_up_to, check_error, read, sign_texts, slow_convert

# These runs tell any two different forms with small numbers from each other.
PROBES = ["\n", "^", "^\n", "^^\n", "^^^\n", "^^^^\n", "^^^^^\n", "^^^^^^\n\n^^"]

FORMS = [
    ("keep", 0, 0), ("keep", 0, 3), ("keep", 2, 0), ("keep", 5, 2), ("keep", 2, 5), ("keep", 1, 1),
    ("lf", 0, 0, 1, 0), ("lf", 2, 0, 1, 3), ("lf", 0, 2, 6, 0), ("lf", 3, 1, 5, 2), ("lf", 1, 4, 7, 9),
    ("cr", 0, 0, 1), ("cr", 2, 0, 3), ("cr", 0, 5, 1), ("cr", 1, 1, 8),
    ("keep", GREAT, 1), ("keep", 1, GREAT), ("lf", GREAT, GREAT, GREAT, GREAT), ("cr", 1, GREAT, GREAT),
]

RUNS = [([], 0), ([], 1), ([], 4), ([(1, 0)], 0), ([(3, 2)], 0), ([(2, 0), (1, 3), (4, 1)], 2), ([(1, 6), (1, 5)], 1),
        ([(GREAT, GREAT), (2, 0)], GREAT)]


def repeated(wanted, times):
    result = ("keep", 0, 0)
    for _ in range(times):
        result = joined(result, wanted)
    return result


class FormTest(unittest.TestCase):
    def test_examples(self):
        self.assertEqual([form("UMUM"), form("DU"), form("DDN")],
                         [("lf", 0, 1, 2, 0), ("keep", 1, 1), ("cr", 2, 0, 1)])

    def test_single_steps_and_the_empty_chain(self):
        self.assertEqual([form(""), form("U"), form("D"), form("M"), form("N")],
                         [("keep", 0, 0), ("keep", 0, 1), ("keep", 1, 0), ("lf", 0, 0, 1, 0), ("cr", 0, 0, 1)])

    def test_longer_chains(self):
        self.assertEqual(form("UUD"), ("keep", 0, 1))
        self.assertEqual(form("DDUUUDDDDU"), ("keep", 3, 1))
        self.assertEqual(form("DUUMUUUDMUU"), ("lf", 1, 2, 3, 2))
        self.assertEqual(form("MDDDUD"), ("lf", 0, 0, 1, 0))
        self.assertEqual(form("MUUNUDMUN"), ("cr", 0, 0, 6))

    def test_small_chains_and_runs_against_convert(self):
        texts = sign_texts(4)
        for chain in chains_up_to(5):
            wanted = form(chain)
            for text in texts:
                self.assertEqual(apply_form(read(text), wanted), read(convert(text, chain)), (chain, text))

    def test_a_form_is_a_tuple_of_a_word_and_integers(self):
        for chain in chains_up_to(3):
            word, *numbers = form(chain)
            self.assertIs(type(form(chain)), tuple)
            self.assertEqual(len(numbers), {"keep": 2, "lf": 4, "cr": 3}[word])
            self.assertEqual({type(number) for number in numbers}, {int})

    def test_every_form_is_the_form_of_some_chain(self):
        for b in range(3):
            for a in range(3):
                before = "D" * b + "U" * a
                self.assertEqual(form(before), ("keep", b, a))
                for k in range(1, 5):
                    times = "U" * (k - 1) + "M"
                    self.assertEqual(form(before + "M" + times + "N"), ("cr", b, a, k))
                    for c in range(3):
                        self.assertEqual(form(before + "M" + times + "U" * c), ("lf", b, a, k, c))

    def test_long_chains(self):
        self.assertEqual(form("U" * 1500 + "D" * 1500), ("keep", 0, 0))
        self.assertEqual(form("D" * 1500 + "U" * 1500), ("keep", 1500, 1500))
        self.assertEqual(form("M" + "UM" * 1500), ("lf", 0, 0, 2 ** 1500, 0))

    def test_chain_check(self):
        for chain, index in [("X", 0), ("UX", 1), ("UDMNu", 4), ("U N", 1), ("XY", 0)]:
            check_error(self, InvalidChain, index, form, chain)


class SameTest(unittest.TestCase):
    def test_both_answers(self):
        self.assertIs(same("UD", ""), True)
        self.assertIs(same("DU", ""), False)
        self.assertIs(same("M", "MD"), True)
        self.assertIs(same("M", "N"), False)
        self.assertIs(same("", ""), True)
        self.assertIs(same("NM", "M"), True)
        self.assertIs(same("MN", "N"), True)

    def test_exactly_if_all_texts_become_the_same(self):
        chains = chains_up_to(3)
        made = {chain: [slow_convert(text, chain) for text in PROBES] for chain in chains}
        for first in chains:
            for second in chains:
                self.assertIs(same(first, second), made[first] == made[second], (first, second))

    def test_long_chains(self):
        self.assertIs(same("UM" * 30, "UM" * 30 + "UD"), True)
        self.assertIs(same("M" + "UM" * 1000 + "N", "N" + "MUMN" * 1000), True)
        self.assertIs(same("U" * 1500 + "D" * 1499, "U"), True)
        self.assertIs(same("D" * 3000, "D" * 2999), False)

    def test_the_first_chain_is_checked_first(self):
        for function in [same, commute]:
            check_error(self, InvalidChain, 1, function, "UX", "X")
            check_error(self, InvalidChain, 0, function, "X", "UX")
            check_error(self, InvalidChain, 2, function, "", "UD?M")
            check_error(self, InvalidChain, 2, function, "UD?M", "")


class CommuteTest(unittest.TestCase):
    def test_both_answers(self):
        self.assertIs(commute("U", "UU"), True)
        self.assertIs(commute("U", "D"), False)
        self.assertIs(commute("M", "N"), False)
        self.assertIs(commute("", "M"), True)
        self.assertIs(commute("MUM", "MUUM"), True)
        self.assertIs(commute("DU", "D"), False)

    def test_both_orders_and_symmetric(self):
        chains = chains_up_to(3)
        for first in chains:
            for second in chains:
                one = [slow_convert(text, first + second) for text in PROBES]
                other = [slow_convert(text, second + first) for text in PROBES]
                self.assertIs(commute(first, second), one == other, (first, second))
                self.assertIs(commute(second, first), one == other, (first, second))

    def test_long_chains(self):
        self.assertIs(commute("U" * 1500, "U" * 3000), True)
        self.assertIs(commute("U" * 1500, "D" * 1500), False)
        self.assertIs(commute("M" + "UM" * 60, "M" + "UUM" * 60), True)
        self.assertIs(commute("M" + "UM" * 60, "N" + "MUUMN" * 60), False)


class ApplyFormTest(unittest.TestCase):
    def check(self, run, wanted, made):
        self.assertEqual(apply_form(run, wanted), made, (run, wanted))

    def test_keep(self):
        run = ([(2, 0), (1, 3), (4, 1)], 2)
        self.check(run, ("keep", 0, 0), run)
        self.check(run, ("keep", 0, 2), ([(2, 2), (1, 5), (4, 3)], 2))
        self.check(run, ("keep", 1, 0), ([(2, 0), (1, 2), (4, 0)], 2))
        self.check(run, ("keep", 2, 1), ([(2, 1), (1, 2), (4, 1)], 2))
        self.check(run, ("keep", 3, 1), ([(7, 1)], 2))
        self.check(([(2, 0), (4, 1), (1, 3)], 0), ("keep", 1, 0), ([(6, 0), (1, 2)], 0))

    def test_lf(self):
        run = ([(2, 0), (1, 3), (4, 1)], 2)
        self.check(run, ("lf", 0, 0, 1, 0), ([(16, 0)], 0))
        self.check(run, ("lf", 0, 0, 3, 5), ([(48, 5)], 0))
        self.check(run, ("lf", 2, 1, 1, 0), ([(17, 0)], 0))
        self.check(run, ("lf", 0, 2, 1, 1), ([(30, 1)], 0))

    def test_cr(self):
        run = ([(2, 0), (1, 3), (4, 1)], 2)
        self.check(run, ("cr", 0, 0, 1), ([], 16))
        self.check(run, ("cr", 0, 0, 3), ([], 48))
        self.check(run, ("cr", 2, 1, 1), ([], 17))

    def test_runs_without_groups(self):
        for rest in [0, 1, 5, GREAT]:
            self.check(([], rest), ("keep", 4, 7), ([], rest))
            self.check(([], rest), ("cr", 4, 7, 3), ([], 3 * rest))
            self.check(([], rest), ("lf", 4, 7, 3, 2), ([(3 * rest, 2)] if rest else [], 0))

    def test_as_the_chain(self):
        for chain in chains_up_to(4):
            for run in RUNS:
                self.check(run, form(chain), convert_run(run, chain))

    def test_great_numbers(self):
        run = ([(GREAT, GREAT), (1, 0)], GREAT)
        self.check(run, ("keep", GREAT, GREAT), ([(GREAT + 1, GREAT)], GREAT))
        count = GREAT * (2 * GREAT) + GREAT + 1 + GREAT
        self.check(run, ("lf", 1, GREAT, GREAT, GREAT), ([(GREAT * count, GREAT)], 0))
        self.check(run, ("cr", 1, GREAT, GREAT), ([], GREAT * count))

    def test_returned_values_of_any_size(self):
        great = powered(("lf", 1, 2, GREAT, 3), 60)
        made = apply_form(([(1, 0)], 0), great)
        self.assertEqual(made, ([(3 * great[3], 3)], 0))
        self.check(made, ("cr", 0, 0, 2), ([], 24 * great[3]))
        self.check(runs_of("^\n\n" * 30000)[0], ("keep", 1, 1), ([(60000, 1)], 0))

    def test_the_run_is_checked_before_the_form(self):
        for wanted in [("keep", 0, 0), ("cr", 0, 0, 0), ()]:
            check_error(self, InvalidRun, 1, apply_form, ([(1, 0), (1, 0)], -1), wanted)
            check_error(self, InvalidRun, 0, apply_form, ([(0, 0), (1, -1)], 0), wanted)
            check_error(self, InvalidRun, None, apply_form, ([(1, 0), (1, 2)], -1), wanted)


class FormCheckTest(unittest.TestCase):
    def test_tuples_that_are_no_forms(self):
        for wanted in NO_FORMS:
            check_error(self, InvalidForm, None, apply_form, ([], 0), wanted)
            check_error(self, InvalidForm, None, apply_form, ([(1, 2)], 3), wanted)
            check_error(self, InvalidForm, None, joined, wanted, ("keep", 0, 1))
            check_error(self, InvalidForm, None, joined, ("cr", 0, 0, 1), wanted)
            check_error(self, InvalidForm, None, joined, wanted, wanted)
            for times in [0, 1, 2]:
                check_error(self, InvalidForm, None, powered, wanted, times)

    def test_the_form_is_checked_before_the_number_of_times(self):
        for wanted in NO_FORMS:
            check_error(self, InvalidForm, None, powered, wanted, -1)

    def test_the_least_numbers_are_forms(self):
        for wanted in [("keep", 0, 0), ("lf", 0, 0, 1, 0), ("cr", 0, 0, 1)]:
            self.assertEqual(joined(("keep", 0, 0), wanted), wanted)


class JoinedTest(unittest.TestCase):
    def test_example(self):
        self.assertEqual(joined(("keep", 0, 1), ("cr", 2, 0, 3)), ("cr", 1, 0, 3))

    def test_each_kind_with_each_kind(self):
        self.assertEqual(joined(("keep", 3, 1), ("keep", 4, 5)), ("keep", 6, 5))
        self.assertEqual(joined(("keep", 3, 4), ("keep", 1, 5)), ("keep", 3, 8))
        self.assertEqual(joined(("keep", 3, 4), ("lf", 1, 5, 7, 9)), ("lf", 3, 8, 7, 9))
        self.assertEqual(joined(("keep", 3, 1), ("cr", 4, 5, 7)), ("cr", 6, 5, 7))
        self.assertEqual(joined(("lf", 1, 2, 3, 4), ("keep", 3, 6)), ("lf", 1, 2, 3, 7))
        self.assertEqual(joined(("lf", 1, 2, 3, 4), ("keep", 9, 6)), ("lf", 1, 2, 3, 6))
        self.assertEqual(joined(("lf", 1, 2, 3, 4), ("lf", 1, 2, 5, 7)), ("lf", 1, 2, 90, 7))
        self.assertEqual(joined(("lf", 1, 2, 3, 4), ("cr", 5, 2, 5)), ("cr", 1, 2, 45))
        self.assertEqual(joined(("cr", 1, 2, 3), ("keep", 5, 6)), ("cr", 1, 2, 3))
        self.assertEqual(joined(("cr", 1, 2, 3), ("lf", 4, 5, 6, 7)), ("lf", 1, 2, 18, 7))
        self.assertEqual(joined(("cr", 1, 2, 3), ("cr", 4, 5, 6)), ("cr", 1, 2, 18))

    def test_the_form_of_both_chains_together(self):
        chains = chains_up_to(3)
        for first in chains:
            for second in chains:
                together = joined(form(first), form(second))
                made = [apply_form(read(text), together) for text in PROBES]
                self.assertEqual(made, [read(slow_convert(text, first + second)) for text in PROBES], (first, second))
                self.assertEqual(together, form(first + second))

    def test_does_what_the_two_forms_do_one_after_the_other(self):
        for first in FORMS:
            for second in FORMS:
                together = joined(first, second)
                for run in RUNS:
                    made = apply_form(apply_form(run, first), second)
                    self.assertEqual(apply_form(run, together), made, (first, second, run))

    def test_the_order_of_joining_does_not_matter(self):
        for first in FORMS:
            for second in FORMS:
                for third in FORMS:
                    self.assertEqual(joined(joined(first, second), third), joined(first, joined(second, third)))


class PoweredTest(unittest.TestCase):
    def test_example(self):
        self.assertEqual(powered(("keep", 0, 1), 10 ** 20), ("keep", 0, 10 ** 20))

    def test_no_times_and_once(self):
        for wanted in FORMS:
            self.assertEqual(powered(wanted, 0), ("keep", 0, 0))
            self.assertEqual(powered(wanted, 1), wanted)

    def test_several_times(self):
        for wanted in FORMS:
            for times in [2, 3, 4, 5, 8, 11, 30, 59, 60]:
                self.assertEqual(powered(wanted, times), repeated(wanted, times), (wanted, times))

    def test_the_repeated_chain(self):
        for chain in chains_up_to(4):
            for times in range(6):
                self.assertEqual(powered(form(chain), times), form(chain * times), (chain, times))

    def test_keep_any_number_of_times(self):
        for times in [10 ** 20, 10 ** 30, 10 ** 30 + 1, 10 ** 1000]:
            self.assertEqual(powered(("keep", 0, 0), times), ("keep", 0, 0))
            self.assertEqual(powered(("keep", 3, 3), times), ("keep", 3, 3))
            self.assertEqual(powered(("keep", 2, 0), times), ("keep", 2 * times, 0))
            self.assertEqual(powered(("keep", 2, 7), times), ("keep", 2, 7 + 5 * (times - 1)))
            self.assertEqual(powered(("keep", 7, 2), times), ("keep", 7 + 5 * (times - 1), 2))
            self.assertEqual(powered(("keep", GREAT, 1), times), ("keep", GREAT + (GREAT - 1) * (times - 1), 1))

    def test_lf_and_cr_sixty_times(self):
        self.assertEqual(powered(("lf", 1, 2, 3, 4), 60), ("lf", 1, 2, 3 ** 60 * 6 ** 59, 4))
        self.assertEqual(powered(("cr", 1, 2, GREAT), 60), ("cr", 1, 2, GREAT ** 60))

    def test_a_negative_number_of_times(self):
        for wanted in FORMS:
            for times in [-1, -2, -GREAT, -10 ** 5000]:
                check_error(self, InvalidNumber, times, powered, wanted, times)
