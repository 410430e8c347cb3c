"""Points 1 and 2, and the interface: names, arguments, new lists and unchanged arguments."""

import copy
import inspect
import unittest

from lineends import (converting, counting, errors, fitting, forms, hidden as hidden_file, readings, remainders,
                      shortest, sources as sources_file, staying, texts, tracing)
from lineends.converting import convert, convert_run, runs_of, size, stages
from lineends.counting import count_forms, forms_with
from lineends.depots import Depot
from lineends.files import LineFile
from lineends.fitting import fits, simplest
from lineends.forms import apply_form, commute, form, joined, powered, same
from lineends.hidden import HiddenChain, find
from lineends.readings import read_form, read_run
from lineends.remainders import remainder
from lineends.shortest import count_shortest, fewest_steps, nth_shortest, shortest_chain, shortest_number
from lineends.sources import count_sources, sources
from lineends.staying import is_idempotent, stays, undoing
from lineends.texts import show_form, show_run
from lineends.tracing import offspring, trace

INTERFACE = {
    converting: {"convert": ["text", "chain"], "convert_run": ["run", "chain"], "stages": ["text", "chain"],
                 "size": ["run"], "runs_of": ["text"]},
    forms: {"form": ["chain"], "same": ["first", "second"], "apply_form": ["run", "wanted"],
            "joined": ["first", "second"], "powered": ["wanted", "times"], "commute": ["first", "second"]},
    shortest: {"fewest_steps": ["wanted"], "shortest_chain": ["wanted"], "count_shortest": ["wanted"],
               "nth_shortest": ["wanted", "number"], "shortest_number": ["chain"]},
    counting: {"count_forms": ["steps"], "forms_with": ["steps"]},
    staying: {"stays": ["run", "wanted"], "is_idempotent": ["wanted"], "undoing": ["wanted"]},
    sources_file: {"count_sources": ["run", "wanted"], "sources": ["run", "wanted"]},
    tracing: {"trace": ["run", "wanted", "place"], "offspring": ["run", "wanted", "place"]},
    remainders: {"remainder": ["first", "second"]},
    fitting: {"fits": ["pairs", "wanted"], "simplest": ["pairs"]},
    hidden_file: {"find": ["hidden", "longest"]},
    texts: {"show_run": ["run"], "show_form": ["wanted"]},
    readings: {"read_run": ["text"], "read_form": ["text"]},
}

# Each class with its arguments, its methods with theirs, and its properties.
CLASSES = {
    HiddenChain: ("lineends.hidden", ["chain"], {"ask": ["text"]}, ["questions"]),
    LineFile: ("lineends.files", ["text"], {"convert": ["chains"], "undo": [], "lines": []},
               ["text", "chain", "form", "breaks"]),
    Depot: ("lineends.depots", ["name"],
            {"copy": ["source", "name", "chain"], "form_of": ["name"], "way": ["source", "name"],
             "are_same": ["first", "second"], "groups": []}, ["names"]),
}

RUNS = [([], 0), ([], 4), ([(1, 0)], 0), ([(2, 0), (1, 3), (4, 1)], 2)]
CHAINS = ["", "U", "D", "M", "N", "UD", "DUMUN"]
FORMS = [("keep", 0, 0), ("keep", 1, 1), ("lf", 0, 0, 1, 0), ("lf", 1, 2, 3, 4), ("cr", 0, 0, 1), ("cr", 1, 2, 3)]
WRONG_RUNS = [([(1, 0), (2, 0)], 0), ([(0, 1)], 2), ([(1, 1)], -1)]


def all_sources(run, wanted):
    return list(sources(run, wanted))


class InterfaceTest(unittest.TestCase):
    def test_each_function_has_its_arguments_and_stands_in_its_file(self):
        for module, functions in INTERFACE.items():
            for name, arguments in functions.items():
                function = getattr(module, name)
                self.assertEqual(list(inspect.signature(function).parameters), arguments)
                self.assertEqual((function.__name__, function.__module__), (name, module.__name__))

    def test_each_class_has_its_methods_in_its_own_body(self):
        for each, (file, arguments, methods, properties) in CLASSES.items():
            self.assertEqual(each.__module__, file)
            self.assertEqual(list(inspect.signature(each).parameters), arguments)
            for name, taken in methods.items():
                self.assertIn(name, vars(each))
                self.assertEqual(list(inspect.signature(vars(each)[name]).parameters)[1:], taken)
            for name in properties:
                self.assertIsInstance(vars(each)[name], property)

    def test_all_files_are_of_one_package(self):
        self.assertEqual({module.__package__ for module in [errors, *INTERFACE]}, {"lineends"})

    def test_arguments_by_name(self):
        run = ([(1, 2)], 3)
        self.assertEqual(convert(chain="U", text="\n"), "^\n")
        self.assertEqual(convert_run(chain="U", run=run), ([(1, 3)], 3))
        self.assertEqual(list(stages(chain="U", text="\n")), ["\n", "^\n"])
        self.assertEqual(size(run=run), 6)
        self.assertEqual(runs_of(text="a\n"), [([(1, 0)], 0)])
        self.assertEqual(form(chain="DU"), ("keep", 1, 1))
        self.assertIs(same(second="UD", first=""), True)
        self.assertEqual(apply_form(wanted=("keep", 0, 1), run=run), ([(1, 3)], 3))
        self.assertEqual(joined(second=("keep", 3, 0), first=("keep", 0, 1)), ("keep", 2, 0))
        self.assertEqual(powered(times=2, wanted=("keep", 0, 1)), ("keep", 0, 2))
        self.assertIs(commute(second="D", first="U"), False)

    def test_arguments_by_name_of_functions_of_forms(self):
        run = ([(1, 2)], 3)
        self.assertEqual(fewest_steps(wanted=("keep", 1, 2)), 3)
        self.assertEqual(shortest_chain(wanted=("keep", 1, 2)), "DUU")
        self.assertEqual(count_shortest(wanted=("cr", 0, 0, 12)), 5)
        self.assertEqual(nth_shortest(number=1, wanted=("cr", 0, 0, 4)), "MUUUN")
        self.assertEqual(shortest_number(chain="MUUUN"), 1)
        self.assertEqual(count_forms(steps=2), 8)
        self.assertEqual(list(forms_with(steps=0)), [("keep", 0, 0)])
        self.assertIs(stays(wanted=("keep", 0, 0), run=run), True)
        self.assertIs(is_idempotent(wanted=("keep", 0, 1)), False)
        self.assertEqual(undoing(wanted=("keep", 0, 1)), "D")
        self.assertEqual(count_sources(wanted=("keep", 4, 2), run=run), 5)
        self.assertEqual(list(sources(wanted=("keep", 0, 1), run=run)), [([(1, 1)], 3)])

    def test_arguments_by_name_of_functions_of_pairs_and_places(self):
        run = ([(1, 2)], 3)
        self.assertEqual(trace(place=2, wanted=("keep", 1, 0), run=run), 3)
        self.assertEqual(offspring(place=2, wanted=("keep", 1, 1), run=run), (1, 2))
        self.assertEqual(remainder(second=("keep", 0, 0), first=("keep", 0, 1)), "D")
        self.assertIs(fits(wanted=("keep", 0, 1), pairs=[(run, ([(1, 3)], 3))]), True)
        self.assertEqual(simplest(pairs=[(run, ([(1, 3)], 3))]), [("keep", 0, 1)])
        hidden = HiddenChain(chain="U")
        self.assertEqual(hidden.ask(text="\n"), "^\n")
        self.assertEqual(find(longest=1, hidden=hidden), ("keep", 0, 1))

    def test_arguments_by_name_of_functions_of_texts_and_of_classes(self):
        run = ([(1, 2)], 3)
        self.assertEqual(show_run(run=run), "1x2 +3")
        self.assertEqual(show_form(wanted=("keep", 0, 1)), "keep 0 1")
        self.assertEqual(read_run(text="1x2 +3"), run)
        self.assertEqual(read_form(text="keep 0 1"), ("keep", 0, 1))
        self.assertEqual(LineFile(text="a\n").text, "a\n")
        self.assertEqual(LineFile.of_lines(ending="\n", lines=["a"]).text, "a\n")
        depot = Depot(name="a")
        depot.copy("a", "b", "U")
        self.assertEqual(depot.form_of(name="b"), ("keep", 0, 1))
        self.assertEqual(depot.way(name="a", source="b"), "D")
        self.assertIs(depot.are_same(second="a", first="b"), False)

    def test_of_lines_is_a_class_method_and_convert_takes_any_number_of_chains(self):
        self.assertIsInstance(vars(LineFile)["of_lines"], classmethod)
        self.assertEqual(list(inspect.signature(LineFile.of_lines).parameters), ["lines", "ending"])
        taken = inspect.signature(LineFile.convert).parameters["chains"]
        self.assertEqual(taken.kind, inspect.Parameter.VAR_POSITIONAL)


class ListsTest(unittest.TestCase):
    def calls(self):
        """Each call that takes or returns lists: a function and its arguments."""
        for run in RUNS:
            yield size, (run,)
            yield show_run, (run,)
            yield read_run, (show_run(run),)
            for chain in CHAINS:
                yield convert_run, (run, chain)
            for wanted in FORMS:
                yield apply_form, (run, wanted)
                yield stays, (run, wanted)
                yield count_sources, (run, wanted)
                yield all_sources, (run, wanted)
                for other in RUNS:
                    yield fits, ([(run, other), (other, run)], wanted)
                if run != ([], 0):
                    yield trace, (run, wanted, 0)
                    yield offspring, (run, wanted, 0)
            for other in RUNS:
                yield simplest, ([(run, other)],)
                yield simplest, ([(run, other), (other, run)],)
        yield simplest, ([],)
        yield simplest, ([(([(1, 0)], 0), ([(6, 0)], 0))],)
        for text in ["", "a", "\n", "a\n\n^b^\n"]:
            yield runs_of, (text,)

    def lists_in(self, value):
        """All lists of a value, those within others too."""
        found = [value] if isinstance(value, list) else []
        if isinstance(value, (list, tuple)):
            for item in value:
                found = found + self.lists_in(item)
        return found

    def test_arguments_are_unchanged(self):
        for function, given in self.calls():
            before = copy.deepcopy(given)
            function(*given)
            self.assertEqual(given, before)

    def test_arguments_are_unchanged_after_an_error(self):
        for run in WRONG_RUNS:
            before = copy.deepcopy(run)
            with_forms = [apply_form, stays, count_sources, all_sources]
            pairs = [(([], 0), ([], 0)), (run, ([], 0))]
            for function, given in [(size, (run,)), (convert_run, (run, "U")), (trace, (run, ("keep", 0, 1), 0)),
                                    (offspring, (run, ("keep", 0, 1), 0)), (fits, (pairs, ("keep", 0, 1))),
                                    (simplest, (pairs,)),
                                    *[(function, (run, ("keep", 0, 1))) for function in with_forms]]:
                with self.assertRaises(errors.InvalidRun):
                    function(*given)
                self.assertEqual(run, before)
                self.assertEqual(pairs, [(([], 0), ([], 0)), (before, ([], 0))])

    def test_a_wrong_place_changes_no_argument(self):
        run = ([(2, 1), (1, 0)], 3)
        for function in [trace, offspring]:
            with self.assertRaises(errors.InvalidPlace):
                function(run, ("keep", 0, 1), 100)
            self.assertEqual(run, ([(2, 1), (1, 0)], 3))

    def test_every_list_is_new(self):
        for function, given in self.calls():
            results = [function(*given), function(*given)]
            lists = self.lists_in(results)
            self.assertEqual(len({id(each) for each in lists}), len(lists), (function, given))
            self.assertTrue({id(each) for each in self.lists_in(given)}.isdisjoint([id(each) for each in lists]))

    def test_a_changed_result_changes_no_later_one(self):
        for function, given in self.calls():
            result = function(*given)
            before = copy.deepcopy(result)
            for each in self.lists_in(result):
                each.append((7, 7))
            self.assertEqual(function(*given), before)

    def test_a_result_does_not_follow_a_changed_argument(self):
        for function, last in [(convert_run, ""), (convert_run, "U"), (apply_form, ("keep", 0, 0))]:
            run = ([(1, 2)], 3)
            result = function(run, last)
            before = copy.deepcopy(result)
            run[0].append((1, 5))
            self.assertEqual(result, before)
