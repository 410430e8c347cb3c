"""Points 4, 7 and 8 over the whole program: its parts agree with each other."""

import random
import unittest

from lineends.converting import convert, convert_run, runs_of, size, stages
from lineends.depots import Depot
from lineends.files import LineFile
from lineends.fitting import fits, simplest
from lineends.forms import apply_form, commute, form, joined, powered, same
from lineends.hidden import HiddenChain, find
from lineends.readings import read_form, read_run
from lineends.remainders import remainder
from lineends.shortest import fewest_steps, shortest_chain
from lineends.sources import sources
from lineends.staying import is_idempotent, stays, undoing
from lineends.texts import show_form, show_run
from lineends.tracing import offspring, trace
from tests.helpers import chains_up_to, sign_texts, slow_convert

TEXTS = ["", "a", "\n", "^", "a\nb^\n\n^^c\n^", "^^^\n^\n\n^ ~\n", "no breaks", "\n\n^^\n^^\nx^"]


def drawn_chains(seed, many, longest):
    """Some chains of several steps."""
    drawn = random.Random(seed)
    return ["".join(drawn.choices(drawn.choice(["UDMN", "UD", "UUM", "DDUMN"]), k=drawn.randrange(longest + 1)))
            for _ in range(many)]


def file_after(text, *chains):
    """A file with a text, behind some chains."""
    file = LineFile(text)
    file.convert(*chains)
    return file


class TextsTest(unittest.TestCase):
    def check_chain(self, chain):
        """Check that all ways to convert a text by a chain make the same."""
        depot = Depot("main")
        depot.copy("main", "copied", chain)
        hidden = HiddenChain(chain)
        for text in TEXTS:
            after = slow_convert(text, chain)
            file = file_after(text, chain)
            self.assertEqual(file.text, after)
            self.assertEqual(convert(text, chain), after)
            self.assertEqual(list(stages(text, chain))[-1], after)
            self.assertEqual(convert(text, shortest_chain(file.form)), after)
            self.assertEqual(convert(text, depot.way("main", "copied")), after)
            self.assertEqual(hidden.ask(text), after)
            self.assertTrue(file == file_after(text, shortest_chain(form(chain))))

    def test_small_chains(self):
        for chain in chains_up_to(4):
            self.check_chain(chain)

    def test_longer_chains(self):
        for chain in drawn_chains(1, 100, 15):
            self.check_chain(chain)

    def test_the_runs_of_a_text(self):
        for chain in chains_up_to(3) + drawn_chains(2, 50, 12):
            for text in TEXTS:
                before, after = runs_of(text), runs_of(file_after(text, chain).text)
                self.assertEqual(after, [convert_run(run, chain) for run in before])
                self.assertEqual(after, [apply_form(run, form(chain)) for run in before])
                self.assertEqual(after, [read_run(show_run(run)) for run in after])
                self.assertTrue(fits(list(zip(before, after)), form(chain)))

    def test_the_breaks_of_a_file(self):
        for chain in drawn_chains(3, 60, 12):
            for text in TEXTS:
                file = file_after(text, chain)
                self.assertEqual(file.breaks, sum(many for groups, _ in runs_of(file.text) for many, _ in groups))
                self.assertEqual(file.breaks + 1, len(list(file.lines())))


class FormsTest(unittest.TestCase):
    def test_all_that_tells_the_form_of_a_chain(self):
        for chain in chains_up_to(5) + drawn_chains(4, 100, 20):
            depot = Depot("main")
            depot.copy("main", "copied", chain)
            wanted = form(chain)
            self.assertEqual(file_after("a\n", chain).form, wanted)
            self.assertEqual(depot.form_of("copied"), wanted)
            self.assertEqual(find(HiddenChain(chain), 20), wanted)
            self.assertEqual(read_form(show_form(wanted)), wanted)
            self.assertEqual(form(shortest_chain(wanted)), wanted)
            self.assertEqual(len(depot.way("main", "copied")), fewest_steps(wanted))
            self.assertEqual(depot.way("copied", "main"), undoing(wanted))

    def test_powers(self):
        for chain in chains_up_to(3):
            depot, file = Depot("main"), LineFile("a\n^b")
            for times in range(4):
                wanted = powered(form(chain), times)
                self.assertEqual([depot.form_of("main"), file.form], [wanted, wanted])
                self.assertEqual(file.text, convert("a\n^b", chain * times))
                depot.copy("main", "main", chain)
                file.convert(chain)
            self.assertIs(powered(form(chain), 2) == form(chain), is_idempotent(form(chain)))

    def test_commute_and_same(self):
        texts = sign_texts(4)
        chains = chains_up_to(2)
        for first in chains:
            for second in chains:
                depot = Depot("main")
                for name, chain in [("one", first + second), ("other", second + first), ("a", first), ("b", second)]:
                    depot.copy("main", name, chain)
                self.assertIs(commute(first, second), depot.are_same("one", "other"))
                self.assertIs(same(first, second), depot.are_same("a", "b"))
                self.assertIs(same(first, second), all(file_after(text, first) == file_after(text, second)
                                                       for text in texts))
                together = [group for group in depot.groups() if "a" in group][0]
                self.assertIs(same(first, second), "b" in together)

    def test_ways_through_a_third_copy(self):
        for chain in drawn_chains(5, 80, 9):
            depot = Depot("main")
            depot.copy("main", "half", chain[:4])
            depot.copy("half", "whole", chain[4:])
            way = depot.way("half", "whole")
            self.assertLessEqual(len(way), fewest_steps(form(chain[4:])))
            self.assertEqual(joined(depot.form_of("half"), form(way)), depot.form_of("whole"))
            self.assertEqual(way, remainder(form(chain[:4]), form(chain)))
            for text in TEXTS:
                file = file_after(text, chain[:4], chain[4:])
                self.assertTrue(file == file_after(text, chain[:4], way))
                self.assertTrue(file == file_after(text, shortest_chain(file.form)))


class RunsTest(unittest.TestCase):
    def test_each_run_is_among_the_sources_of_its_result(self):
        for chain in chains_up_to(3):
            wanted = form(chain)
            for text in sign_texts(3):
                run = (runs_of(text) or [([], 0)])[0]
                made = convert_run(run, chain)
                self.assertIn(run, list(sources(made, wanted)))
                self.assertIs(stays(run, wanted), made == run)
                self.assertTrue(fits([(run, made)], wanted))
                self.assertLessEqual(fewest_steps(simplest([(run, made)])[0]), fewest_steps(wanted))

    def test_each_character_of_a_result_is_among_the_offspring_of_its_origin(self):
        for chain in chains_up_to(4):
            for run in [([(2, 1)], 1), ([(1, 3), (2, 0)], 0), ([], 2)]:
                wanted = form(chain)
                found = [trace(run, wanted, place) for place in range(size(convert_run(run, chain)))]
                for place in range(size(run)):
                    first, last = offspring(run, wanted, place) or (0, -1)
                    self.assertEqual(found.count(place), last - first + 1)

    def test_great_values_pass_from_function_to_function(self):
        wanted = powered(("lf", 1, 2, 10 ** 29, 3), 50)
        run = apply_form(([(10 ** 29, 7)], 10 ** 29), wanted)
        self.assertEqual(show_run(run), f"{show_run(([], run[0][0][0]))[1:]}x3")
        self.assertEqual(show_form(wanted).split(" ")[4], "3")
        self.assertEqual(trace(run, wanted, size(apply_form(run, wanted)) - 1), size(run) - 1)
        self.assertTrue(fits([(run, apply_form(run, wanted))], wanted))
        self.assertEqual(show_form(wanted), "lf 1 2 " + show_run(([], wanted[3]))[1:] + " 3")
