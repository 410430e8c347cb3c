"""Points 2, 3 and 4: files, their steps forwards and backwards, and their equality."""

import random
import unittest

from lineends.converting import convert
from lineends.errors import InvalidChain, NothingToUndo
from lineends.files import LineFile
from lineends.forms import form
from tests.helpers import STEPS, check_error, sign_texts, slow_convert

TEXTS = ["", "\n", "a", "^", "a\nb^\n\n^^c\n^", "one\ntwo\n", "a^b\n^\n ~\n\n"]


class Derived(LineFile):
    """A class of a caller."""


class PlainFile:
    """What a file does, with a plain list of all texts."""

    def __init__(self, text):
        self.texts = [text]
        self.steps = ""

    def convert(self, chain):
        for letter in chain:
            self.texts.append(slow_convert(self.texts[-1], letter))
            self.steps += letter

    def undo(self):
        self.texts.pop()
        self.steps = self.steps[:-1]


class CallsTest(unittest.TestCase):
    def check_file(self, file, plain):
        """Check all that a file tells against a plain list of texts."""
        text = plain.texts[-1]
        self.assertEqual([file.text, file.chain, file.form, file.breaks, list(file.lines())],
                         [text, plain.steps, form(plain.steps), text.count("\n"), text.split("\n")])
        self.assertEqual([type(each) for each in [file.text, file.chain, file.form, file.breaks]],
                         [str, str, tuple, int])

    def test_a_new_file(self):
        for text in TEXTS:
            self.check_file(LineFile(text), PlainFile(text))
            self.check_file(LineFile(text=text), PlainFile(text))

    def test_drawn_calls(self):
        drawn = random.Random(1)
        for text in TEXTS * 4:
            file, plain = LineFile(text), PlainFile(text)
            for _ in range(15):
                if drawn.randrange(3) > 0:
                    chains = ["".join(drawn.choices("UDMND", k=drawn.randrange(4))) for _ in range(drawn.randrange(4))]
                    self.assertIsNone(file.convert(*chains))
                    plain.convert("".join(chains))
                elif plain.steps:
                    self.assertIsNone(file.undo())
                    plain.undo()
                else:
                    check_error(self, NothingToUndo, 0, file.undo)
                self.check_file(file, plain)

    def test_no_chains_and_empty_chains(self):
        file, plain = LineFile("a\n^"), PlainFile("a\n^")
        for chains in [(), ("",), ("", ""), ("U", "", "M"), ("", "D"), ()]:
            file.convert(*chains)
            plain.convert("".join(chains))
            self.check_file(file, plain)

    def test_steps_are_taken_back_within_a_call_and_within_a_chain(self):
        file, plain = LineFile("a\nb^\n"), PlainFile("a\nb^\n")
        file.convert("UD", "MUU", "N")
        plain.convert("UDMUUN")
        for _ in range(6):
            self.check_file(file, plain)
            file.undo()
            plain.undo()
        self.check_file(file, plain)
        check_error(self, NothingToUndo, 0, file.undo)
        self.check_file(file, plain)

    def test_converted_again_after_undo(self):
        file, plain = LineFile("a\n\n^"), PlainFile("a\n\n^")
        for _ in range(10):
            file.convert("UM", "U")
            plain.convert("UMU")
            for _ in range(2):
                file.undo()
                plain.undo()
            file.convert("D")
            plain.convert("D")
            self.check_file(file, plain)
        for _ in range(len(plain.steps)):
            file.undo()
            plain.undo()
            self.check_file(file, plain)

    def test_a_step_that_changes_nothing_is_a_step(self):
        file = LineFile("no breaks")
        file.convert("UDMN")
        self.assertEqual([file.text, file.chain], ["no breaks", "UDMN"])
        for many in range(3, -1, -1):
            file.undo()
            self.assertEqual(file.chain, "UDMN"[:many])
        check_error(self, NothingToUndo, 0, file.undo)

    def test_190_steps(self):
        drawn = random.Random(2)
        file, plain = LineFile("a\nb^\n\n^c"), PlainFile("a\nb^\n\n^c")
        for letters in ["U" * 60, "D" * 40, "DU" * 30, "UDUDUDUDUD" * 2, "MDDDNMMNNM"]:
            file.convert(letters)
            plain.convert(letters)
            self.check_file(file, plain)
        self.assertEqual(len(file.chain), 190)
        for _ in range(80):
            file.undo()
            plain.undo()
            self.check_file(file, plain)
        file.convert("".join(drawn.choices("UD", k=20)))
        self.assertEqual(file.text, convert("a\nb^\n\n^c", file.chain))

    def test_a_form_with_a_great_k(self):
        file = LineFile("no breaks")
        file.convert(*["UUM" * 20] * 3)
        self.assertEqual(file.form, ("lf", 0, 2, 3 ** 59, 0))
        self.assertEqual(file.text, "no breaks")

    def test_a_text_of_almost_100000_characters(self):
        texts = [("a" * 88 + "^\n") * 1000]
        file = LineFile(texts[0])
        chain = "U" * 9 + "D" * 10 + "UD" * 20 + "UUUMDNMUN"
        for letter in chain:
            texts.append(convert(texts[-1], letter))
        self.assertEqual(max(map(len, texts)), 99000)
        self.assertGreater(len(chain), 60)
        file.convert(chain[:40], chain[40:])
        for many in range(len(chain), 0, -1):
            self.assertEqual([file.text, file.chain], [texts[many], chain[:many]])
            file.undo()
        self.assertEqual([file.text, file.chain], [texts[0], ""])
        check_error(self, NothingToUndo, 0, file.undo)

    def test_two_files_at_once(self):
        one, other = LineFile("a\n"), LineFile("a\n")
        one.convert("UU")
        self.assertEqual([other.text, other.chain], ["a\n", ""])
        other.convert("M", "N")
        self.assertEqual([one.text, one.chain], ["a^^\n", "UU"])
        one.undo()
        self.assertEqual([one.text, one.chain, other.text, other.chain], ["a^\n", "U", "a^", "MN"])
        check_error(self, InvalidChain, 0, one.convert, "x")
        self.assertEqual([one.text, one.chain, other.text, other.chain], ["a^\n", "U", "a^", "MN"])


class WrongLetterTest(unittest.TestCase):
    def test_the_index_counts_over_all_chains_and_nothing_is_applied(self):
        for before in ["", "U", "UMU"]:
            for chains, index in [(["x"], 0), (["U", "Dx"], 2), (["UD", "", "M N", "y"], 3), (["UUU", "d", "x"], 3),
                                  (["", "", "^"], 0), (["UM"] * 30 + ["UUn"], 62), (["U\n"], 1),
                                  (["NM", "UD", "?"], 4)]:
                file = LineFile("a\n^\n")
                file.convert(before)
                told = [file.text, file.chain, file.form, file.breaks]
                check_error(self, InvalidChain, index, file.convert, *chains)
                self.assertEqual([file.text, file.chain, file.form, file.breaks], told)
                for _ in before:
                    file.undo()
                self.assertEqual([file.text, file.chain], ["a\n^\n", ""])
                check_error(self, NothingToUndo, 0, file.undo)

    def test_undo_at_the_beginning(self):
        for file in [LineFile(""), LineFile("a\n"), LineFile.of_lines(["a"], "\n")]:
            text = file.text
            for _ in range(3):
                check_error(self, NothingToUndo, 0, file.undo)
                self.assertEqual([file.text, file.chain], [text, ""])
            file.convert("U")
            file.undo()
            check_error(self, NothingToUndo, 0, file.undo)

    def test_properties_cannot_be_set(self):
        for name in ["text", "chain", "form", "breaks"]:
            with self.assertRaises(AttributeError):
                setattr(LineFile("a"), name, "b")


class EqualityTest(unittest.TestCase):
    def test_equal_texts_by_other_steps(self):
        one, other = LineFile("a\nb\n"), LineFile("a^\nb^\n")
        self.assertFalse(one == other)
        self.assertTrue(one != other)
        one.convert("U")
        self.assertTrue(one == other)
        self.assertFalse(one != other)
        other.convert("UUDD")
        self.assertTrue(one == other)
        other.undo()
        self.assertFalse(one == other)
        self.assertTrue(one == one)

    def test_texts_that_differ_in_one_break(self):
        for text, other in [("a\n", "a^\n"), ("a\n", "a^"), ("a\n", "a"), ("a\n\n", "a\n"), ("^\n", "\n^"), ("", "^")]:
            self.assertFalse(LineFile(text) == LineFile(other))
            self.assertTrue(LineFile(text) != LineFile(other))
            self.assertTrue(LineFile(text) == LineFile(text))
            self.assertFalse(LineFile(text) != LineFile(text))

    def test_all_small_texts(self):
        texts = sign_texts(4)
        for text in texts:
            for other in texts:
                self.assertIs(LineFile(text) == LineFile(other), text == other)

    def test_not_equal_to_anything_else(self):
        for file, others in [(LineFile("a"), ["a", None, ["a"], ("a",), {"a": 1}, 0, True, b"a", LineFile]),
                             (LineFile(""), ["", None, [], (), {}, 0, False, b""])]:
            for other in others:
                self.assertIs(file == other, False)
                self.assertIs(other == file, False)
                self.assertIs(file != other, True)
                self.assertIs(other != file, True)
                self.assertFalse(file in [other])

    def test_derived_classes(self):
        self.assertTrue(LineFile("a\n") == Derived("a\n"))
        self.assertTrue(Derived("a\n") == LineFile("a\n"))
        self.assertTrue(Derived("a\n") != LineFile("a^\n"))


class LinesTest(unittest.TestCase):
    def test_lines(self):
        for text, lines in [("", [""]), ("\n", ["", ""]), ("a", ["a"]), ("a^\nb^\n", ["a^", "b^", ""]), ("^", ["^"]),
                            ("a\n\n^b", ["a", "", "^b"]), ("^\n^\n", ["^", "^", ""])]:
            self.assertEqual(list(LineFile(text).lines()), lines)

    def test_walks_are_independent(self):
        file = LineFile("a\nb\n\nc")
        stopped = iter(file.lines())
        self.assertEqual(next(stopped), "a")
        one, other = iter(file.lines()), iter(file.lines())
        self.assertEqual([next(one), next(one), next(other), next(one), next(other)], ["a", "b", "a", "", "b"])
        self.assertEqual(list(file.lines()), ["a", "b", "", "c"])
        file.convert("U")
        self.assertEqual(list(file.lines()), ["a^", "b^", "^", "c"])

    def test_of_lines_with_each_ending(self):
        for ending in ["\n", "^\n", "^"]:
            for lines in [[], [""], ["a"], ["a", "b"], ["", "a", "", ""], ["a b", "~", "x"] * 20]:
                before = list(lines)
                file = LineFile.of_lines(lines, ending)
                self.assertEqual(lines, before)
                self.assertIs(type(file), LineFile)
                self.assertEqual(file.text, "".join(line + ending for line in lines))
                self.assertEqual([file.chain, file.form, file.breaks],
                                 ["", ("keep", 0, 0), len(lines) * ending.count("\n")])
                self.assertTrue(file == LineFile(file.text))

    def test_of_lines_does_not_follow_its_list(self):
        lines = ["a", "b"]
        file = LineFile.of_lines(lines, "\n")
        lines.append("c")
        self.assertEqual(file.text, "a\nb\n")

    def test_of_lines_by_name(self):
        self.assertEqual(LineFile.of_lines(ending="^", lines=["a", "b"]).text, "a^b^")

    def test_of_lines_on_a_derived_class(self):
        file = Derived.of_lines(["a", "b"], "^\n")
        self.assertIs(type(file), Derived)
        file.convert("D")
        self.assertEqual([file.text, file.chain], ["a\nb\n", "D"])
        self.assertIs(type(LineFile.of_lines([], "\n")), LineFile)
        self.assertIs(type(Derived("a").of_lines([], "\n")), Derived)

    def test_from_each_ending_to_each_other_one(self):
        lines = ["a", "", "b"]
        chains = {("\n", "^\n"): "U", ("\n", "^"): "N", ("^\n", "\n"): "D", ("^\n", "^"): "DN", ("^", "\n"): "M",
                  ("^", "^\n"): "MU"}
        for (before, after), chain in chains.items():
            file = LineFile.of_lines(lines, before)
            file.convert(chain)
            self.assertTrue(file == LineFile.of_lines(lines, after))
            self.assertTrue(set(chain) <= set(STEPS))
