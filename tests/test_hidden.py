"""Points 2, 3, 4, 7 and 8: hidden chains and what one question tells of them."""

import random
import unittest

from lineends.converting import convert
from lineends.errors import InvalidChain
from lineends.forms import form
from lineends.hidden import HiddenChain, find
from tests.helpers import chains_up_to, check_error, slow_convert


class Listener:
    """Asks a hidden chain, and keeps the questions."""

    def __init__(self, chain):
        self.hidden = HiddenChain(chain)
        self.texts = []

    def ask(self, text):
        self.texts.append(text)
        return self.hidden.ask(text)


class HiddenChainTest(unittest.TestCase):
    def test_ask(self):
        for chain in chains_up_to(3):
            hidden = HiddenChain(chain)
            for text in ["", "a", "\n", "^", "a\nb^\n\n^^c\n^", "no breaks"]:
                self.assertEqual(hidden.ask(text), slow_convert(text, chain))

    def test_questions(self):
        hidden, other = HiddenChain("UM"), HiddenChain("UM")
        self.assertEqual(hidden.questions, 0)
        for many in range(1, 50):
            hidden.ask("a\n")
            self.assertEqual(hidden.questions, many)
        self.assertEqual(other.questions, 0)
        self.assertIs(type(hidden.questions), int)

    def test_questions_without_an_answer_do_not_count(self):
        hidden = HiddenChain("U")
        hidden.ask("\n")
        with self.assertRaises(AttributeError):
            hidden.ask(7)
        self.assertEqual(hidden.questions, 1)

    def test_questions_cannot_be_set(self):
        with self.assertRaises(AttributeError):
            HiddenChain("U").questions = 7

    def test_arguments_by_name(self):
        self.assertEqual(HiddenChain(chain="U").ask(text="\n"), "^\n")

    def test_chain_check(self):
        for chain, index in [("x", 0), ("u", 0), ("Ud", 1), ("UDM N", 3), ("UU\n", 2), ("^M", 0), ("U" * 59 + "u", 59),
                             ("xyz", 0)]:
            check_error(self, InvalidChain, index, HiddenChain, chain)
            check_error(self, InvalidChain, index, HiddenChain, chain=chain)


class FindTest(unittest.TestCase):
    def test_all_short_chains_with_each_longest(self):
        for chain in chains_up_to(5):
            for longest in range(len(chain), 21):
                hidden = HiddenChain(chain)
                self.assertEqual(find(hidden, longest), form(chain), (chain, longest))
                self.assertEqual(hidden.questions, 1)

    def test_all_chains_up_to_seven_steps(self):
        for chain in chains_up_to(7):
            wanted = form(chain)
            for longest in [len(chain), 20]:
                self.assertEqual(find(HiddenChain(chain), longest), wanted, (chain, longest))

    def test_drawn_chains(self):
        drawn = random.Random(8)
        for letters in ["UDMN", "UD", "UUM", "DDDUM", "UUDDMN"]:
            for _ in range(200):
                chain = "".join(drawn.choices(letters, k=drawn.randrange(8, 21)))
                for longest in range(len(chain), 21):
                    self.assertEqual(find(HiddenChain(chain), longest), form(chain), (chain, longest))

    def test_chains_of_20_steps(self):
        for chain in ["U" * 20, "D" * 20, "D" * 19 + "M", "D" * 19 + "N", "U" * 19 + "M", "U" * 19 + "N",
                      "M" + "U" * 19, "UM" * 10, "MU" * 10, "UUM" * 6 + "UU", "UUUM" * 5, "UUM" * 6 + "UN",
                      "D" * 10 + "U" * 10, "D" * 9 + "U" * 9 + "MU", "N" * 20, "M" * 20, "DU" * 10, "UD" * 10]:
            self.assertEqual(find(HiddenChain(chain), 20), form(chain), chain)

    def test_questions_before_and_after(self):
        hidden = HiddenChain("DUMUM")
        hidden.ask("a")
        hidden.ask("b\n")
        self.assertEqual(find(hidden, 5), ("lf", 1, 1, 2, 0))
        self.assertEqual(hidden.questions, 3)
        self.assertEqual(find(hidden, 20), ("lf", 1, 1, 2, 0))
        hidden.ask("")
        self.assertEqual(hidden.questions, 5)

    def test_one_short_question_is_asked(self):
        for longest in range(21):
            for chain in ["", "U" * longest, "D" * longest, "N" * longest, "M" * longest]:
                listener = Listener(chain)
                self.assertEqual(find(listener, longest), form(chain))
                self.assertEqual((len(listener.texts), listener.hidden.questions), (1, 1))
                text = listener.texts[0]
                self.assertIs(type(text), str)
                self.assertLessEqual(len(text), 100)
                self.assertTrue(all(" " <= sign <= "~" or sign == "\n" for sign in text), text)

    def test_no_text_on_the_way_is_too_long(self):
        for chain in ["UUM" * 6 + "UU", "UM" * 10, "UUUM" * 5, "UUUUM" * 4, "U" * 20, "UUM" * 5 + "UUUUU"]:
            listener = Listener(chain)
            find(listener, 20)
            for many in range(21):
                self.assertLessEqual(len(convert(listener.texts[0], chain[:many])), 100000)

    def test_arguments_by_name(self):
        self.assertEqual(find(longest=3, hidden=HiddenChain("DU")), ("keep", 1, 1))

    def test_two_hidden_chains_at_once(self):
        one, other = HiddenChain("U"), HiddenChain("N")
        self.assertEqual([find(one, 2), find(other, 2)], [("keep", 0, 1), ("cr", 0, 0, 1)])
        self.assertEqual(find(one, 1), ("keep", 0, 1))
        self.assertEqual([one.questions, other.questions], [2, 1])
