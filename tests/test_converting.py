"""Point 4: texts after chains of steps."""

import itertools
import unittest

from lineends.converting import convert, stages
from lineends.errors import InvalidChain
from tests.helpers import STEPS, chains_up_to, check_error, sign_texts, slow_convert

TEXTS = ["", "abc", "\n", "^", "a\nb^\nc", "^^\n", "\n^", "^\n^\n", "a^b^^c\n\nd", " ~^\n\n^^\n^ ~", "U\nD^\nM^N"]


class ConvertTest(unittest.TestCase):
    def check(self, text, chain, wanted):
        self.assertEqual(convert(text, chain), wanted, (text, chain))

    def test_example(self):
        self.check("a\nb^\nc", "UM", "a\n\nb\n\n\nc")

    def test_u_puts_a_return_before_each_newline(self):
        self.check("a\nb^\nc^d", "U", "a^\nb^^\nc^d")
        self.check("\n\n", "U", "^\n^\n")
        self.check("\n^", "U", "^\n^")

    def test_d_takes_one_return_from_before_each_newline(self):
        self.check("a\nb^\nc^d", "D", "a\nb\nc^d")
        self.check("^^\n", "D", "^\n")
        self.check("^\n^\n", "D", "\n\n")
        self.check("\n^", "D", "\n^")
        self.check("^^^\n\n^", "D", "^^\n\n^")

    def test_m_turns_each_return_into_a_newline(self):
        self.check("a\nb^\nc^d", "M", "a\nb\n\nc\nd")
        self.check("^^\n", "M", "\n\n\n")
        self.check("\n^", "M", "\n\n")

    def test_n_turns_each_newline_into_a_return(self):
        self.check("a\nb^\nc^d", "N", "a^b^^c^d")
        self.check("^^\n", "N", "^^^")
        self.check("\n^", "N", "^^")

    def test_what_a_step_puts_in_is_not_replaced_again_by_it(self):
        self.check("\n", "U", "^\n")
        self.check("^^^^\n", "D", "^^^\n")
        self.check("^\n", "M", "\n\n")
        self.check("^\n", "N", "^^")

    def test_no_breaks(self):
        for text in ["", " ", "abc", "UDMN", "a ~ z"]:
            for chain in chains_up_to(3):
                self.check(text, chain, text)

    def test_empty_chain(self):
        for text in TEXTS:
            self.check(text, "", text)

    def test_steps_are_applied_from_left_to_right(self):
        self.check("\n", "UM", "\n\n")
        self.check("\n", "MU", "^\n")
        self.check("^\n", "DU", "^\n")
        self.check("\n", "DU", "^\n")
        self.check("\n", "UD", "\n")
        self.check("^\n", "NM", "\n\n")
        self.check("^\n", "MN", "^^")

    def test_all_small_texts_and_chains(self):
        for text in sign_texts(5):
            for chain in chains_up_to(3):
                self.check(text, chain, slow_convert(text, chain))

    def test_mixed_texts(self):
        for text in TEXTS:
            for chain in chains_up_to(4):
                self.check(text, chain, slow_convert(text, chain))

    def test_sizes_at_the_bounds(self):
        text = "ab^\n" * 500
        self.check(text, "U" * 30 + "D" * 30, text)
        self.check(text, "U" * 60, "ab" + "^" * 61 + ("\nab" + "^" * 61) * 499 + "\n")
        self.check("\n", "U" * 3000, "^" * 3000 + "\n")
        self.check("\n", "UM" * 16, "\n" * 2 ** 16)


class StagesTest(unittest.TestCase):
    def test_the_text_comes_first_then_the_text_after_each_step(self):
        self.assertEqual(list(stages("a\nb", "UUMN")), ["a\nb", "a^\nb", "a^^\nb", "a\n\n\nb", "a^^^b"])

    def test_a_step_that_changes_nothing_has_its_text_too(self):
        self.assertEqual(list(stages("a", "DD")), ["a", "a", "a"])

    def test_empty_chain_and_empty_text(self):
        self.assertEqual(list(stages("a\n", "")), ["a\n"])
        self.assertEqual(list(stages("", "UN")), ["", "", ""])

    def test_each_text_is_the_text_after_the_first_steps(self):
        for text in TEXTS:
            for chain in chains_up_to(4):
                wanted = [slow_convert(text, chain[:many]) for many in range(len(chain) + 1)]
                self.assertEqual(list(stages(text, chain)), wanted)

    def test_a_walk_may_stop_early(self):
        # The later texts would have more than 2 ** 60 characters.
        seen = list(itertools.islice(stages("\n", "UM" * 60), 5))
        self.assertEqual(seen, ["\n", "^\n", "\n\n", "^\n^\n", "\n\n\n\n"])

    def test_walks_are_independent(self):
        one = iter(stages("\n", "UU"))
        self.assertEqual(next(one), "\n")
        self.assertEqual(list(stages("\n", "UU")), ["\n", "^\n", "^^\n"])
        self.assertEqual(list(one), ["^\n", "^^\n"])


def first_stage(text, chain):
    return next(iter(stages(text, chain)))


class ChainCheckTest(unittest.TestCase):
    def test_the_first_other_letter(self):
        for function in [convert, first_stage]:
            for chain, index in [("X", 0), ("UX", 1), ("XU", 0), ("UDMNx", 4), ("UXY", 1), ("UDMNUDMN?D?", 8),
                                 ("U" * 59 + "V", 59)]:
                for text in ["", "a\nb"]:
                    check_error(self, InvalidChain, index, function, text, chain)

    def test_only_the_four_capital_letters_are_steps(self):
        for letter in [chr(code) for code in range(32, 127)] + ["\n"]:
            if letter not in STEPS:
                check_error(self, InvalidChain, 0, convert, "\n", letter)
                check_error(self, InvalidChain, 2, convert, "\n", "UD" + letter)
                check_error(self, InvalidChain, 2, first_stage, "\n", "UD" + letter)
