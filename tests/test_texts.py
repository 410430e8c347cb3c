"""Points 3, 5, 7 and 8: runs and forms as texts."""

import random
import unittest

from lineends.errors import Unreadable
from lineends.forms import apply_form, form, powered
from lineends.readings import read_form, read_run
from lineends.texts import show_form, show_run
from tests.helpers import GREAT, INVALID_RUNS, NO_FORMS, chains_up_to, check_error, read, sign_texts, small_forms

RUN_TEXTS = ["+0", "+1", "+5", "1x0", "3x0 1x2 +1", "1x0 1x1 1x0", "10x20 +30", "1x0 +10", "1x" + "9" * 60,
             "9" * 60 + "x0 +" + "9" * 60, "+" + "1" + "0" * 59]
FORM_TEXTS = ["keep 0 0", "keep 1 20", "lf 0 0 1 0", "lf 0 1 2 0", "lf 10 200 3000 4", "cr 0 0 1", "cr 5 6 70",
              "keep 0 " + "9" * 60, "lf 0 0 1" + "0" * 59 + " 0"]
NO_NUMBERS = ["", "00", "01", "-1", "-0", "+1", " 1", "1 ", "1.0", "1e3", "1_000", "0x1", "x", "a", "1\n", "\n", "1\t",
              "\u0661", "\u00b2", "\uff11", "9" * 61, "1" + "0" * 60, "0" + "9" * 59, "^", "None", "1,0"]


class ShowRunTest(unittest.TestCase):
    def test_each_kind(self):
        for run, text in [(([], 0), "+0"), (([], 7), "+7"), (([(1, 0)], 0), "1x0"), (([(1, 0)], 1), "1x0 +1"),
                          (([(3, 0), (1, 2)], 1), "3x0 1x2 +1"),
                          (([(12, 345), (1, 0), (2, 345)], 0), "12x345 1x0 2x345"),
                          (([(GREAT, GREAT)], GREAT), "{0}x{0} +{0}".format("9" * 30))]:
            self.assertEqual(show_run(run), text)
            self.assertEqual(show_run(run=run), text)

    def test_40_tuples(self):
        groups = [(at + 1, at) for at in range(40)]
        self.assertEqual(show_run((groups, 0)), " ".join(f"{at + 1}x{at}" for at in range(40)))
        self.assertEqual(groups, [(at + 1, at) for at in range(40)])

    def test_all_small_runs(self):
        texts = [show_run(read(text)) for text in sign_texts(8)]
        self.assertEqual(len(set(texts)), len(texts))

    def test_numbers_of_4000_digits(self):
        digits = "7" + "0" * 3000 + "123456789" * 111
        number = 7 * 10 ** 3999 + int("123456789" * 111)
        self.assertEqual(len(digits), 4000)
        self.assertEqual(show_run(([(number, number)], number)), f"{digits}x{digits} +{digits}")
        self.assertEqual(show_form(("lf", number, number, number, number)), " ".join(["lf"] + [digits] * 4))

    def test_every_length_of_a_number(self):
        for length in list(range(1, 200)) + [640, 1000, 3999, 4000, 4300, 4301, 6000]:
            for number, digits in [(10 ** length - 1, "9" * length), (10 ** (length - 1), "1" + "0" * (length - 1))]:
                self.assertEqual(show_run(([], number)), "+" + digits)
                self.assertEqual(show_form(("keep", 0, number)), "keep 0 " + digits)

    def test_returned_runs_and_forms(self):
        wanted = powered(("cr", 1, 2, 10 ** 60), 60)
        self.assertEqual(show_form(wanted), "cr 1 2 1" + "0" * 3600)
        run = apply_form(([], 10 ** 29), wanted)
        self.assertEqual(show_run(run), "+1" + "0" * 3629)


class ShowFormTest(unittest.TestCase):
    def test_each_kind(self):
        for wanted, text in [(("keep", 0, 0), "keep 0 0"), (("keep", 10, 2), "keep 10 2"),
                             (("lf", 0, 1, 2, 0), "lf 0 1 2 0"), (("cr", 3, 20, 100), "cr 3 20 100"),
                             (("keep", 0, GREAT), "keep 0 " + "9" * 30)]:
            self.assertEqual(show_form(wanted), text)
            self.assertEqual(show_form(wanted=wanted), text)

    def test_all_small_forms(self):
        texts = [show_form(wanted) for wanted in small_forms(3)]
        self.assertEqual(len(set(texts)), len(texts))


class ReadTest(unittest.TestCase):
    def test_what_is_read_is_shown_again(self):
        for text in RUN_TEXTS:
            self.assertEqual(show_run(read_run(text)), text)
        for text in FORM_TEXTS:
            self.assertEqual(show_form(read_form(text)), text)

    def test_what_was_shown_is_read(self):
        for text in sign_texts(8):
            self.assertEqual(read_run(show_run(read(text))), read(text))
        for wanted in small_forms(3):
            self.assertEqual(read_form(show_form(wanted)), wanted)
        for chain in chains_up_to(4):
            self.assertEqual(read_form(show_form(form(chain))), form(chain))

    def test_great_numbers(self):
        drawn = random.Random(1)
        for _ in range(200):
            b, a, k, c = [drawn.randrange(1, 10 ** drawn.randrange(1, 61)) for _ in range(4)]
            for wanted in [("keep", b, a), ("lf", b, a, k, c), ("cr", b, a, k)]:
                self.assertEqual(read_form(show_form(wanted)), wanted)
            run = ([(b, 2 * a), (k, 2 * c + 1), (a, 0)], drawn.randrange(2) * k)
            if len(str(2 * max(a, c) + 1)) <= 60:
                self.assertEqual(read_run(show_run(run)), run)

    def test_a_text_of_4000_characters(self):
        run = ([(10 ** 59 + at, 10 ** 39 + at) for at in range(39)], 5)
        text = show_run(run)
        self.assertTrue(3900 < len(text) <= 4000)
        self.assertEqual(read_run(text), run)
        long = " ".join(f"1x{at % 2}" for at in range(1000))
        self.assertEqual(read_run(long), ([(1, at % 2) for at in range(1000)], 0))
        check_error(self, Unreadable, long + " 2x1", read_run, long + " 2x1")

    def test_numbers_of_60_and_of_61_digits(self):
        longest, beyond = "9" * 60, "1" + "0" * 60
        self.assertEqual(read_run(f"{longest}x{longest} +{longest}"), ([(10 ** 60 - 1, 10 ** 60 - 1)], 10 ** 60 - 1))
        self.assertEqual(read_form(f"cr {longest} 0 {longest}"), ("cr", 10 ** 60 - 1, 0, 10 ** 60 - 1))
        for text in [f"{beyond}x0", f"1x{beyond}", f"+{beyond}", f"1x0 +{beyond}", f"1x0 {beyond}x1"]:
            check_error(self, Unreadable, text, read_run, text)
        for text in [f"keep {beyond} 0", f"keep 0 {beyond}", f"lf 0 0 {beyond} 0", f"lf 0 0 1 {beyond}",
                     f"cr 0 0 {beyond}"]:
            check_error(self, Unreadable, text, read_form, text)

    def test_the_kinds_of_values(self):
        run = read_run("3x0 1x2 +1")
        self.assertEqual(run, ([(3, 0), (1, 2)], 1))
        self.assertEqual([type(each) for each in [run, run[0], run[0][0], run[0][0][0], run[1]]],
                         [tuple, list, tuple, int, int])
        self.assertIsNot(read_run("1x0")[0], read_run("1x0")[0])
        self.assertEqual([type(each) for each in read_form("keep 0 1")], [str, int, int])
        self.assertIs(type(read_form("keep 0 1")), tuple)

    def test_arguments_by_name(self):
        self.assertEqual(read_run(text="+1"), ([], 1))
        self.assertEqual(read_form(text="keep 0 1"), ("keep", 0, 1))


class UnreadableTest(unittest.TestCase):
    def check_texts(self, function, texts):
        for text in texts:
            check_error(self, Unreadable, text, function, text)

    def test_spoilt_numbers(self):
        for number in NO_NUMBERS:
            self.check_texts(read_run, [f"{number}x0", f"1x{number}", f"1x0 {number}x1", f"1x0 2x{number} 1x1",
                                        f"1x0 +{number}", f"2x1 1x{number} +2", f"+{number}"])
            self.check_texts(read_form, [f"keep {number} 0", f"keep 0 {number}", f"lf {number} 0 1 0",
                                         f"lf 0 {number} 1 0", f"lf 0 0 {number} 0", f"lf 0 0 1 {number}",
                                         f"cr {number} 0 1", f"cr 0 {number} 1", f"cr 0 0 {number}"])

    def test_runs_that_are_not_valid(self):
        self.check_texts(read_run, ["0x0", "0x5", "0x0 +1", "1x0 0x1", "1x0 1x0", "2x3 5x3", "1x0 1x1 1x1 +1",
                                    "1x2 1x0 1x0 1x2"])
        for (groups, rest), _ in INVALID_RUNS:
            words = [f"{many}x{j}" for many, j in groups] + ([f"+{rest}"] if rest else [])
            self.check_texts(read_run, [" ".join(words)])

    def test_the_rest(self):
        self.check_texts(read_run, ["1x0 +0", "3x0 1x2 +0", "+", "+ 1", "+1 +1", "+0 +1", "+1 +0", "+0 +0", "+1 1x0",
                                    "+0 1x0", "1x0 +1 1x1", "1x0 1", "1", "0", "1x0+1", "++1", "+1+", "1x0 ++1", "+1x0",
                                    "1x0 +1x0", "1+0"])

    def test_spaces(self):
        for text in RUN_TEXTS:
            self.check_texts(read_run, [" " + text, text + " ", "  " + text, "\n" + text, text + "\n", text + "\t",
                                        text + "^"])
        for text in FORM_TEXTS:
            self.check_texts(read_form, [" " + text, text + " ", "\n" + text, text + "\n", text + "\t",
                                         text.replace(" ", "  ", 1), text.replace(" ", "\n"), text.replace(" ", "\t"),
                                         text.replace(" ", "")])
        self.check_texts(read_run, ["1x0  1x1", "1x0  +1", "1x0\n1x1", "1x0\t+1", "1 x0", "1x 0", " ", "  ", "\n"])
        self.check_texts(read_form, [" ", "  ", "\n", "keep  0 0", "keep 0  0"])

    def test_the_empty_text(self):
        self.check_texts(read_run, [""])
        self.check_texts(read_form, [""])

    def test_other_words_and_signs(self):
        self.check_texts(read_run, ["1X0", "1*0", "1x", "x1", "x", "1x0x0", "1xx0", "1x0,1x1", "1x0 x", "1x0 a", "a",
                                    "keep 0 0", "1x0 keep", "([], 0)", "^^\n", "1x-0", "1 0", "1x0;"])
        self.check_texts(read_form, ["Keep 0 0", "KEEP 0 0", "kee 0 0", "keeps 0 0", "stay 0 0", "LF 0 0 1 0",
                                     "Cr 0 0 1", "lf", "keep", "cr", "0 0", "0 keep 0", "0 0 keep", "keep keep 0",
                                     "lf 0 0 1 cr", "+0", "1x0", "keep,0,0", "lfcr 0 0 1 0", "\u212aeep 0 0"])

    def test_too_few_and_too_many_numbers(self):
        for text in FORM_TEXTS:
            self.check_texts(read_form, [text + " 0", text + " 1 1", text.rpartition(" ")[0], text.partition(" ")[0],
                                         text + " x"])
        self.check_texts(read_form, ["keep 0", "keep 0 0 1", "keep 0 0 1 0", "lf 0 0 1", "lf 0 0 1 0 0", "cr 0 0",
                                     "cr 0 0 1 0"])

    def test_k_of_0(self):
        self.check_texts(read_form, ["lf 0 0 0 0", "cr 0 0 0", "lf 1 2 0 3", "cr 1 2 0"])

    def test_tuples_that_are_no_forms(self):
        self.check_texts(read_form, [" ".join(map(str, wanted)) for wanted in NO_FORMS])
