"""Point 5: runs, their sizes, their steps and their check."""

import unittest

from lineends.converting import convert, convert_run, runs_of, size
from lineends.errors import InvalidChain, InvalidRun
from tests.helpers import GREAT, INVALID_RUNS, chains_up_to, check_error, read, sign_texts, slow_convert, written


class RunCheckTest(unittest.TestCase):
    def test_the_first_fault(self):
        for run, value in INVALID_RUNS:
            check_error(self, InvalidRun, value, size, run)
            check_error(self, InvalidRun, value, convert_run, run, "")
            check_error(self, InvalidRun, value, convert_run, run, "UDMN")

    def test_the_run_is_checked_before_the_chain(self):
        for run, value in INVALID_RUNS:
            check_error(self, InvalidRun, value, convert_run, run, "X")

    def test_chain_check(self):
        for run in [([], 0), ([(1, 2), (1, 0)], 3)]:
            check_error(self, InvalidChain, 0, convert_run, run, "X")
            check_error(self, InvalidChain, 3, convert_run, run, "UNDu")
            check_error(self, InvalidChain, 1, convert_run, run, "U\nX")

    def test_the_same_number_further_on_is_no_fault(self):
        run = ([(1, 0), (1, 1), (1, 0), (2, 1)], 0)
        self.assertEqual(convert_run(run, ""), run)


class ConvertRunTest(unittest.TestCase):
    def check(self, run, chain, wanted):
        self.assertEqual(convert_run(run, chain), wanted, (run, chain))

    def test_examples(self):
        self.check(([(3, 0), (1, 2)], 1), "UD", ([(3, 0), (1, 2)], 1))
        self.check(([(10 ** 20, 1)], 0), "M", ([(2 * 10 ** 20, 0)], 0))

    def test_the_kinds_of_values(self):
        groups, rest = convert_run(([(1, 0), (2, 3)], 1), "U")
        self.assertIs(type(groups), list)
        self.assertEqual([type(group) for group in groups], [tuple, tuple])
        self.assertIs(type(rest), int)

    def test_each_step(self):
        run = ([(3, 0), (1, 2), (2, 1)], 4)
        self.check(run, "U", ([(3, 1), (1, 3), (2, 2)], 4))
        self.check(run, "D", ([(3, 0), (1, 1), (2, 0)], 4))
        self.check(run, "M", ([(14, 0)], 0))
        self.check(run, "N", ([], 14))

    def test_neighbours_that_become_equal_are_one_tuple(self):
        self.check(([(3, 0), (2, 1), (5, 0), (1, 2)], 1), "D", ([(10, 0), (1, 1)], 1))
        self.check(([(1, 0), (1, 1), (1, 2), (1, 3)], 0), "DD", ([(3, 0), (1, 1)], 0))
        self.check(([(1, 0), (1, 1), (1, 2), (1, 3)], 0), "DDDUU", ([(4, 2)], 0))
        self.check(([(1, 3), (1, 0), (1, 1), (1, 3)], 0), "D", ([(1, 2), (2, 0), (1, 2)], 0))

    def test_the_run_without_characters_stays(self):
        for chain in chains_up_to(4):
            self.check(([], 0), chain, ([], 0))

    def test_a_rest_alone(self):
        self.check(([], 3), "UD", ([], 3))
        self.check(([], 3), "M", ([(3, 0)], 0))
        self.check(([], 3), "N", ([], 3))

    def test_as_convert_of_the_run_written_as_a_text(self):
        for text in sign_texts(5):
            run = read(text)
            self.assertEqual(written(run), text)
            for chain in chains_up_to(4):
                self.check(run, chain, read(convert(text, chain)))

    def test_longer_runs_and_chains(self):
        runs = [([(3, 0), (2, 5), (4, 1)], 7), ([(1, 9)], 0), ([(2, 4), (1, 3), (1, 2), (1, 1), (1, 0)], 1)]
        for run in runs:
            for chain in ["UUUDDDDD", "DDUDUUM", "UDMUUN", "MUMUDUMU", "NMUUMDN", "DDDDDDDUUU", "NUDMUUUDD"]:
                self.check(run, chain, read(slow_convert(written(run), chain)))

    def test_great_numbers(self):
        run = ([(GREAT, GREAT), (GREAT, 0), (1, GREAT)], GREAT)
        self.check(run, "DDU", ([(GREAT, GREAT - 1), (GREAT, 1), (1, GREAT - 1)], GREAT))
        count = GREAT * (GREAT + 1) + GREAT + GREAT + 1 + GREAT
        self.check(run, "N", ([], count))
        self.check(run, "MUM", ([(2 * count, 0)], 0))
        self.check(run, "M" + "UM" * 29 + "U", ([(2 ** 29 * count, 1)], 0))

    def test_returned_values_of_any_size(self):
        run = convert_run(([(1, GREAT)], 0), "M" + "UM" * 1500)
        self.assertEqual(run, ([(2 ** 1500 * (GREAT + 1), 0)], 0))
        self.check(run, "UN", ([], 2 ** 1501 * (GREAT + 1)))
        long = runs_of("^\n\n" * 30000)[0]
        self.check(long, "U" * 1500 + "D" * 1500, long)


class SizeTest(unittest.TestCase):
    def test_small_runs(self):
        self.assertEqual(size(([], 0)), 0)
        self.assertEqual(size(([], 5)), 5)
        self.assertEqual(size(([(1, 0)], 0)), 1)
        self.assertEqual(size(([(3, 0), (2, 4)], 6)), 19)

    def test_number_of_characters(self):
        for text in sign_texts(8):
            self.assertEqual(size(read(text)), len(text))

    def test_great_numbers(self):
        self.assertEqual(size(([(GREAT, GREAT), (1, 0)], GREAT)), GREAT * (GREAT + 1) + 1 + GREAT)


class RunsOfTest(unittest.TestCase):
    def check(self, text, wanted):
        self.assertEqual(runs_of(text), wanted)

    def test_example(self):
        self.check("a\n\n^b^\n", [([(2, 0)], 1), ([(1, 1)], 0)])

    def test_no_runs(self):
        for text in ["", "a", "abc", " ", "   ", "a b  c"]:
            self.check(text, [])

    def test_the_whole_text(self):
        for text in sign_texts(6):
            self.check(text, [read(text)] if text else [])

    def test_runs_at_both_ends(self):
        self.check("\na^", [([(1, 0)], 0), ([], 1)])
        self.check("^^ \n^\n", [([], 2), ([(1, 0), (1, 1)], 0)])

    def test_runs_in_the_middle_only(self):
        self.check("a\nb^\nc^d", [([(1, 0)], 0), ([(1, 1)], 0), ([], 1)])

    def test_equal_neighbours_are_one_tuple(self):
        self.check("x^\n^\n\n\n^\ny", [([(2, 1), (2, 0), (1, 1)], 0)])

    def test_every_other_character_ends_a_run(self):
        for code in range(32, 127):
            sign = chr(code)
            if sign != "^":
                self.check("\n" + sign + "^", [([(1, 0)], 0), ([], 1)])

    def test_the_runs_of_a_converted_text(self):
        for text in ["a\nb^\nc", "^x\n\n^y^^\n\nz", "\n^a b\n", "   ^ \n ^\n^ "]:
            for chain in chains_up_to(4):
                self.check(convert(text, chain), [convert_run(run, chain) for run in runs_of(text)])

    def test_a_long_text(self):
        self.check("a^\n" * 30000, [([(1, 1)], 0)] * 30000)
        self.check("\n" * 100000, [([(100000, 0)], 0)])
