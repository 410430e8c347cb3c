"""Points 3, 4, 6, 7 and 8: depots of copies of one unknown text."""

import random
import unittest

from lineends.depots import Depot
from lineends.errors import InvalidChain, UnknownName
from lineends.forms import form, joined
from lineends.remainders import remainder
from tests.helpers import chains_up_to, check_error, sign_texts, slow_convert

NAMES = ["main", "a", "b", "dos", "unix", "abcdefghijklmnopqrst"]


def slow_groups(forms):
    """The groups of a plain dictionary of forms."""
    found = []
    for name in sorted(forms):
        for group in found:
            if forms[group[0]] == forms[name]:
                group.append(name)
                break
        else:
            found.append([name])
    return found


class CallsTest(unittest.TestCase):
    def check_depot(self, depot, forms):
        """Check all that a depot tells against a plain dictionary of forms."""
        self.assertEqual(depot.names, sorted(forms))
        self.assertEqual(list(depot.groups()), slow_groups(forms))
        for name in forms:
            self.assertEqual(depot.form_of(name), forms[name])
            for other in forms:
                self.assertIs(depot.are_same(name, other), forms[name] == forms[other])
                self.assertEqual(depot.way(name, other), remainder(forms[name], forms[other]))

    def test_a_new_depot(self):
        for name in NAMES:
            self.check_depot(Depot(name), {name: ("keep", 0, 0)})
            self.check_depot(Depot(name=name), {name: ("keep", 0, 0)})

    def test_drawn_calls(self):
        drawn = random.Random(1)
        for original in NAMES * 3:
            depot, forms = Depot(original), {original: ("keep", 0, 0)}
            for _ in range(15):
                source, name = drawn.choice(sorted(forms)), drawn.choice(NAMES)
                chain = "".join(drawn.choices("UDUDMN", k=drawn.randrange(4)))
                self.assertIsNone(depot.copy(source, name, chain))
                forms[name] = joined(forms[source], form(chain))
                self.check_depot(depot, forms)

    def test_chains_of_copies(self):
        for first in chains_up_to(2):
            for second in chains_up_to(2):
                depot = Depot("a")
                depot.copy("a", "b", first)
                depot.copy("b", "c", second)
                self.assertEqual([depot.form_of(name) for name in depot.names],
                                 [("keep", 0, 0), form(first), form(first + second)])

    def test_copies_onto_themselves(self):
        depot = Depot("a")
        depot.copy("a", "b", "U")
        depot.copy("a", "a", "M")
        self.check_depot(depot, {"a": ("lf", 0, 0, 1, 0), "b": ("keep", 0, 1)})
        depot.copy("a", "a", "UM")
        depot.copy("b", "b", "U")
        self.check_depot(depot, {"a": ("lf", 0, 0, 2, 0), "b": ("keep", 0, 2)})
        depot.copy("b", "b", "")
        self.check_depot(depot, {"a": ("lf", 0, 0, 2, 0), "b": ("keep", 0, 2)})

    def test_a_replaced_copy_changes_no_other_one(self):
        depot = Depot("a")
        depot.copy("a", "b", "U")
        depot.copy("b", "c", "M")
        depot.copy("c", "b", "N")
        self.check_depot(depot, {"a": ("keep", 0, 0), "b": form("UMN"), "c": form("UM")})
        depot.copy("c", "a", "U")
        self.check_depot(depot, {"a": form("UMU"), "b": form("UMN"), "c": form("UM")})

    def test_forms_are_from_the_original_even_if_it_is_replaced(self):
        depot = Depot("a")
        depot.copy("a", "a", "DU")
        depot.copy("a", "b", "DU")
        self.check_depot(depot, {"a": ("keep", 1, 1), "b": ("keep", 1, 1)})
        self.assertEqual(list(depot.groups()), [["a", "b"]])

    def test_two_depots_at_once(self):
        one, other = Depot("a"), Depot("a")
        one.copy("a", "b", "U")
        other.copy("a", "c", "D")
        self.check_depot(one, {"a": ("keep", 0, 0), "b": ("keep", 0, 1)})
        self.check_depot(other, {"a": ("keep", 0, 0), "c": ("keep", 1, 0)})

    def test_a_great_k(self):
        depot = Depot("a")
        for _ in range(3):
            depot.copy("a", "a", "UUM" * 20)
        depot.copy("a", "b", "UUU")
        self.assertEqual([depot.form_of("a"), depot.form_of("b")], [("lf", 0, 2, 3 ** 59, 0), ("lf", 0, 2, 3 ** 59, 3)])
        self.assertEqual([depot.way("a", "b"), depot.way("b", "a")], ["UUU", "DDD"])


class TextsTest(unittest.TestCase):
    def test_equal_copies_have_equal_texts(self):
        texts = sign_texts(4)
        depot, chains = Depot("original"), {"original": ""}
        for number, chain in enumerate(chains_up_to(3)):
            name = "x" + "".join("abcdefghij"[int(digit)] for digit in str(number))
            depot.copy("original", name, chain)
            chains[name] = chain
        by_texts = {}
        for name in sorted(chains):
            made = tuple(slow_convert(text, chains[name]) for text in texts)
            by_texts.setdefault(made, []).append(name)
        self.assertEqual(list(depot.groups()), sorted(by_texts.values()))

    def test_a_way_makes_one_copy_of_another_one(self):
        texts = sign_texts(4)
        for first in chains_up_to(2):
            for second in chains_up_to(2):
                depot = Depot("main")
                depot.copy("main", "one", first)
                depot.copy("main", "other", second)
                for source, name, before, after in [("one", "other", first, second), ("other", "one", second, first)]:
                    way = depot.way(source, name)
                    if way is None:
                        continue
                    for text in texts:
                        self.assertEqual(slow_convert(slow_convert(text, before), way), slow_convert(text, after))


class WaysTest(unittest.TestCase):
    def test_both_directions(self):
        depot = Depot("main")
        depot.copy("main", "dos", "U")
        depot.copy("main", "mac", "N")
        depot.copy("main", "four", "MUMUMU")
        self.assertEqual([depot.way("main", "dos"), depot.way("dos", "main")], ["U", "D"])
        self.assertEqual([depot.way("main", "mac"), depot.way("mac", "main")], ["N", None])
        self.assertEqual([depot.way("dos", "mac"), depot.way("mac", "dos")], ["DN", None])
        self.assertEqual([depot.way("mac", "four"), depot.way("four", "mac")], ["MUMUMU", None])
        self.assertEqual([depot.way(name, name) for name in depot.names], ["", "", "", ""])


class ListsTest(unittest.TestCase):
    def test_new_lists(self):
        depot = Depot("b")
        for name in ["c", "a", "d"]:
            depot.copy("b", name, "U")
        for _ in range(2):
            self.assertEqual(depot.names, ["a", "b", "c", "d"])
            depot.names.append("x")
            depot.names.clear()
            for group in depot.groups():
                group.append("x")
            self.assertEqual(list(depot.groups()), [["a", "c", "d"], ["b"]])
        self.assertIsNot(depot.names, depot.names)
        self.assertIsNot(list(depot.groups())[0], list(depot.groups())[0])

    def test_lists_do_not_follow_the_depot(self):
        depot = Depot("a")
        names, groups = depot.names, list(depot.groups())
        depot.copy("a", "b", "")
        self.assertEqual([names, groups], [["a"], [["a"]]])
        self.assertEqual([depot.names, list(depot.groups())], [["a", "b"], [["a", "b"]]])

    def test_walks_are_independent(self):
        depot = Depot("a")
        for name, chain in [("b", "U"), ("c", ""), ("d", "U"), ("e", "M")]:
            depot.copy("a", name, chain)
        stopped = iter(depot.groups())
        self.assertEqual(next(stopped), ["a", "c"])
        one, other = iter(depot.groups()), iter(depot.groups())
        self.assertEqual([next(one), next(one), next(other), next(one)], [["a", "c"], ["b", "d"], ["a", "c"], ["e"]])
        self.assertEqual(list(depot.groups()), [["a", "c"], ["b", "d"], ["e"]])

    def test_names_cannot_be_set(self):
        with self.assertRaises(AttributeError):
            Depot("a").names = []


class ErrorsTest(unittest.TestCase):
    def setUp(self):
        self.depot = Depot("main")
        self.depot.copy("main", "dos", "U")

    def tearDown(self):
        # No error changes the depot.
        self.assertEqual(self.depot.names, ["dos", "main"])
        self.assertEqual([self.depot.form_of("dos"), self.depot.form_of("main")], [("keep", 0, 1), ("keep", 0, 0)])

    def test_copy_from_an_unknown_source(self):
        for name in ["main", "dos", "new", "other"]:
            check_error(self, UnknownName, "other", self.depot.copy, "other", name, "U")

    def test_copy_by_a_wrong_chain(self):
        for name in ["main", "dos", "new"]:
            check_error(self, InvalidChain, 0, self.depot.copy, "dos", name, "x")
            check_error(self, InvalidChain, 2, self.depot.copy, "main", name, "UD UM")

    def test_the_source_is_checked_before_the_chain(self):
        for name in ["main", "new", "other"]:
            check_error(self, UnknownName, "other", self.depot.copy, "other", name, "x")

    def test_form_of(self):
        for name in ["other", "", "Main", "dosx"]:
            check_error(self, UnknownName, name, self.depot.form_of, name)
            check_error(self, UnknownName, name, self.depot.form_of, name=name)

    def test_way_and_are_same(self):
        for function in [self.depot.way, self.depot.are_same]:
            check_error(self, UnknownName, "one", function, "one", "dos")
            check_error(self, UnknownName, "one", function, "dos", "one")
            check_error(self, UnknownName, "one", function, "one", "other")
            check_error(self, UnknownName, "other", function, "other", "one")
            check_error(self, UnknownName, "one", function, "one", "one")

    def test_arguments_by_name(self):
        self.assertEqual(self.depot.form_of(name="dos"), ("keep", 0, 1))
        self.assertEqual(self.depot.way(name="main", source="dos"), "D")
        self.assertIs(self.depot.are_same(second="main", first="dos"), False)
