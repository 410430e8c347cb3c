"""Points 1 and 2, and the interface: names, arguments, new lists and unchanged arguments."""

import copy
import inspect
import unittest

from lineends import converting, errors, forms
from lineends.converting import convert, convert_run, runs_of, size, stages
from lineends.forms import apply_form, commute, form, joined, powered, same

INTERFACE = {
    converting: {"convert": ["text", "chain"], "convert_run": ["run", "chain"], "stages": ["text", "chain"],
                 "size": ["run"], "runs_of": ["text"]},
    forms: {"form": ["chain"], "same": ["first", "second"], "apply_form": ["run", "wanted"],
            "joined": ["first", "second"], "powered": ["wanted", "times"], "commute": ["first", "second"]},
}

RUNS = [([], 0), ([], 4), ([(1, 0)], 0), ([(2, 0), (1, 3), (4, 1)], 2)]
CHAINS = ["", "U", "D", "M", "N", "UD", "DUMUN"]
FORMS = [("keep", 0, 0), ("keep", 1, 1), ("lf", 0, 0, 1, 0), ("lf", 1, 2, 3, 4), ("cr", 0, 0, 1), ("cr", 1, 2, 3)]
WRONG_RUNS = [([(1, 0), (2, 0)], 0), ([(0, 1)], 2), ([(1, 1)], -1)]


class InterfaceTest(unittest.TestCase):
    def test_each_function_has_its_arguments_and_stands_in_its_file(self):
        for module, functions in INTERFACE.items():
            for name, arguments in functions.items():
                function = getattr(module, name)
                self.assertEqual(list(inspect.signature(function).parameters), arguments)
                self.assertEqual((function.__name__, function.__module__), (name, module.__name__))

    def test_all_files_are_of_one_package(self):
        self.assertEqual({module.__package__ for module in [converting, errors, forms]}, {"lineends"})

    def test_arguments_by_name(self):
        run = ([(1, 2)], 3)
        self.assertEqual(convert(chain="U", text="\n"), "^\n")
        self.assertEqual(convert_run(chain="U", run=run), ([(1, 3)], 3))
        self.assertEqual(list(stages(chain="U", text="\n")), ["\n", "^\n"])
        self.assertEqual(size(run=run), 6)
        self.assertEqual(runs_of(text="a\n"), [([(1, 0)], 0)])
        self.assertEqual(form(chain="DU"), ("keep", 1, 1))
        self.assertIs(same(second="UD", first=""), True)
        self.assertEqual(apply_form(wanted=("keep", 0, 1), run=run), ([(1, 3)], 3))
        self.assertEqual(joined(second=("keep", 3, 0), first=("keep", 0, 1)), ("keep", 2, 0))
        self.assertEqual(powered(times=2, wanted=("keep", 0, 1)), ("keep", 0, 2))
        self.assertIs(commute(second="D", first="U"), False)


class ListsTest(unittest.TestCase):
    def calls(self):
        """Each call that takes or returns lists: a function and its arguments."""
        for run in RUNS:
            yield size, (run,)
            for chain in CHAINS:
                yield convert_run, (run, chain)
            for wanted in FORMS:
                yield apply_form, (run, wanted)
        for text in ["", "a", "\n", "a\n\n^b^\n"]:
            yield runs_of, (text,)

    def lists_in(self, value):
        """All lists of a value, those within others too."""
        found = [value] if isinstance(value, list) else []
        if isinstance(value, (list, tuple)):
            for item in value:
                found = found + self.lists_in(item)
        return found

    def test_arguments_are_unchanged(self):
        for function, given in self.calls():
            before = copy.deepcopy(given)
            function(*given)
            self.assertEqual(given, before)

    def test_arguments_are_unchanged_after_an_error(self):
        for run in WRONG_RUNS:
            before = copy.deepcopy(run)
            for function, given in [(size, (run,)), (convert_run, (run, "U")), (apply_form, (run, ("keep", 0, 1)))]:
                with self.assertRaises(errors.InvalidRun):
                    function(*given)
                self.assertEqual(run, before)

    def test_every_list_is_new(self):
        for function, given in self.calls():
            results = [function(*given), function(*given)]
            lists = self.lists_in(given) + self.lists_in(results)
            self.assertEqual(len({id(each) for each in lists}), len(lists), (function, given))

    def test_a_changed_result_changes_no_later_one(self):
        for function, given in self.calls():
            result = function(*given)
            before = copy.deepcopy(result)
            for each in self.lists_in(result):
                each.append((7, 7))
            self.assertEqual(function(*given), before)

    def test_a_result_does_not_follow_a_changed_argument(self):
        for function, last in [(convert_run, ""), (convert_run, "U"), (apply_form, ("keep", 0, 0))]:
            run = ([(1, 2)], 3)
            result = function(run, last)
            before = copy.deepcopy(result)
            run[0].append((1, 5))
            self.assertEqual(result, before)
