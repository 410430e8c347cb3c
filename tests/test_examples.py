"""The examples of the interface as they stand, and those of the README."""

import doctest
import pathlib
import unittest

README = pathlib.Path(__file__).resolve().parent.parent / "README.md"


class ExamplesTest(unittest.TestCase):
    def test_converting(self):
        from lineends.converting import convert, convert_run, runs_of
        self.assertEqual(
            [convert('a\nb^\nc', 'UM'), convert_run(([(3, 0), (1, 2)], 1), 'UD'),
             convert_run(([(10 ** 20, 1)], 0), 'M'), runs_of('a\n\n^b^\n')],
            ['a\n\nb\n\n\nc', ([(3, 0), (1, 2)], 1), ([(200000000000000000000, 0)], 0), [([(2, 0)], 1), ([(1, 1)], 0)]])

    def test_forms(self):
        from lineends.forms import apply_form, form, joined, powered, same
        self.assertEqual(
            [form('UMUM'), form('DU'), form('DDN'), joined(('keep', 0, 1), ('cr', 2, 0, 3)),
             powered(('keep', 0, 1), 10 ** 20)],
            [('lf', 0, 1, 2, 0), ('keep', 1, 1), ('cr', 2, 0, 1), ('cr', 1, 0, 3), ('keep', 0, 100000000000000000000)])
        self.assertTrue(callable(apply_form) and callable(same))

    def test_shortest(self):
        from lineends.shortest import count_shortest, fewest_steps, nth_shortest, shortest_number
        twelve = ('cr', 0, 0, 12)
        self.assertEqual(
            [fewest_steps(twelve), count_shortest(twelve), nth_shortest(twelve, 0), shortest_number('MUMUMUUN'),
             shortest_number('NU')],
            [8, 5, 'MUMUMUUN', 0, None])

    def test_counting(self):
        from lineends.counting import count_forms, forms_with
        self.assertEqual(
            [[count_forms(steps) for steps in [0, 1, 2, 3]], list(forms_with(1))],
            [[1, 4, 8, 15], [('cr', 0, 0, 1), ('keep', 0, 1), ('keep', 1, 0), ('lf', 0, 0, 1, 0)]])

    def test_staying(self):
        from lineends.staying import is_idempotent, stays, undoing
        self.assertEqual(
            [stays(([(5, 1)], 0), ('keep', 1, 1)), is_idempotent(('keep', 1, 1)), is_idempotent(('lf', 0, 0, 2, 0)),
             undoing(('keep', 0, 2)), undoing(('keep', 1, 1))],
            [True, True, False, 'DD', None])

    def test_sources(self):
        from lineends.sources import count_sources, sources
        self.assertEqual(
            [count_sources(([(2, 0)], 0), ('keep', 1, 0)), list(sources(([(2, 0)], 0), ('lf', 0, 0, 1, 0))),
             count_sources(([(1, 0)], 0), ('lf', 0, 0, 2, 0))],
            [4, [([(2, 0)], 0), ([(1, 0)], 1), ([(1, 1)], 0), ([], 2)], 0])

    def test_tracing(self):
        from lineends.tracing import offspring, trace
        run = ([(2, 1)], 1)
        self.assertEqual(
            [trace(run, ('keep', 1, 2), 1), trace(run, ('lf', 0, 0, 2, 1), 7), offspring(run, ('keep', 1, 2), 0),
             offspring(run, ('cr', 0, 1, 3), 1)],
            [1, 1, None, (3, 8)])

    def test_remainders(self):
        from lineends.remainders import remainder
        self.assertEqual(
            [remainder(('keep', 0, 2), ('keep', 1, 0)), remainder(('keep', 1, 0), ('keep', 0, 0)),
             remainder(('lf', 0, 0, 1, 0), ('lf', 0, 0, 6, 2)), remainder(('cr', 0, 0, 2), ('cr', 0, 0, 2))],
            ['DDD', None, 'UMUUMUU', ''])

    def test_fitting(self):
        from lineends.fitting import fits, simplest
        self.assertEqual(
            [simplest([(([(1, 5)], 0), ([(1, 3)], 0))]), simplest([(([(1, 0)], 0), ([(6, 0)], 0))]),
             simplest([(([], 1), ([], 2)), (([], 1), ([], 3))])],
            [[('keep', 2, 0)], [('lf', 0, 1, 3, 0), ('lf', 0, 2, 2, 0)], []])
        self.assertTrue(callable(fits))

    def test_hidden(self):
        from lineends.hidden import HiddenChain, find
        hidden = HiddenChain('DUMUM')
        self.assertEqual([find(hidden, 10), hidden.questions], [('lf', 1, 1, 2, 0), 1])

    def test_files(self):
        from lineends.files import LineFile
        file = LineFile.of_lines(['a', 'b'], '^\n')
        file.convert('D', 'UM')
        file.undo()
        self.assertEqual([file.text, file.chain, file.form, file.breaks, list(file.lines())],
                         ['a^\nb^\n', 'DU', ('keep', 1, 1), 2, ['a^', 'b^', '']])

    def test_depots(self):
        from lineends.depots import Depot
        depot = Depot('main')
        depot.copy('main', 'dos', 'U')
        depot.copy('dos', 'back', 'D')
        self.assertEqual([depot.form_of('dos'), depot.way('dos', 'main'), depot.are_same('main', 'back'),
                          list(depot.groups())],
                         [('keep', 0, 1), 'D', True, [['back', 'main'], ['dos']]])

    def test_texts(self):
        from lineends.texts import show_form, show_run
        self.assertEqual([show_run(([(3, 0), (1, 2)], 1)), show_run(([], 0)), show_form(('lf', 0, 1, 2, 0))],
                         ['3x0 1x2 +1', '+0', 'lf 0 1 2 0'])

    def test_readings(self):
        from lineends.errors import Unreadable
        from lineends.readings import read_run
        with self.assertRaises(Unreadable) as caught:
            read_run('2x0 3x0')
        self.assertEqual(caught.exception.value, '2x0 3x0')

    def test_readme(self):
        # The fences around the examples would be read as a part of what is wanted.
        text = README.read_text().replace("```", "")
        examples = doctest.DocTestParser().get_doctest(text, {}, "README.md", str(README), 0)
        failed, tried = doctest.DocTestRunner().run(examples)
        self.assertEqual(failed, 0)
        self.assertGreater(tried, 5)
