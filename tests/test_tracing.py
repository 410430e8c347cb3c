"""Point 10: the places from which characters stem, and those that stem from a character."""

import random
import unittest

from lineends.converting import size
from lineends.errors import InvalidForm, InvalidPlace, InvalidRun
from lineends.forms import apply_form, form, powered
from lineends.tracing import offspring, trace
from tests.helpers import (GREAT, INVALID_RUNS, NO_FORMS, chains_up_to, check_error, read, sign_texts, slow_convert,
                           small_forms)


def slow_origins(text, chain):
    """The signs after a chain, each with the place from which it stems."""
    signs = [(sign, place) for place, sign in enumerate(text)]
    for letter in chain:
        made = []
        for at, (sign, place) in enumerate(signs):
            if letter == "U" and sign == "\n":
                made.extend([("^", place), ("\n", place)])
            elif letter == "D" and sign == "^" and signs[at + 1:] and signs[at + 1][0] == "\n":
                continue
            elif letter == "M" and sign == "^":
                made.append(("\n", place))
            elif letter == "N" and sign == "\n":
                made.append(("^", place))
            else:
                made.append((sign, place))
        signs = made
    return signs


class TryingTest(unittest.TestCase):
    def check_text(self, text, chain):
        """Check both functions for all places of a text and of what a chain makes of it."""
        signs = slow_origins(text, chain)
        self.assertEqual("".join(sign for sign, _ in signs), slow_convert(text, chain))
        origins = [place for _, place in signs]
        run, wanted = read(text), form(chain)
        self.assertEqual([trace(run, wanted, place) for place in range(len(origins))], origins, (text, chain))
        for place in range(len(text)):
            found = [at for at, origin in enumerate(origins) if origin == place]
            self.assertEqual(offspring(run, wanted, place), (found[0], found[-1]) if found else None, (text, chain))
            self.assertEqual(found, list(range(found[0], found[-1] + 1)) if found else [])
        for beyond in [-1, len(origins)]:
            check_error(self, InvalidPlace, beyond, trace, run, wanted, beyond)
        for beyond in [-1, len(text)]:
            check_error(self, InvalidPlace, beyond, offspring, run, wanted, beyond)

    def test_all_small_texts_and_chains(self):
        for chain in chains_up_to(4):
            for text in sign_texts(4):
                self.check_text(text, chain)

    def test_longer_chains_and_texts(self):
        drawn = random.Random(10)
        for _ in range(600):
            chain = "".join(drawn.choices("UUDDMN", k=drawn.randrange(5, 11)))
            text = "".join(drawn.choices("^^\n", k=drawn.randrange(13)))
            self.check_text(text, chain)

    def test_chains_with_the_same_form_give_the_same_places(self):
        origins_by_form = {}
        texts = sign_texts(4)
        for chain in chains_up_to(5):
            origins = [slow_origins(text, chain) for text in texts]
            self.assertEqual(origins_by_form.setdefault(form(chain), origins), origins, chain)


class PlacesTest(unittest.TestCase):
    def test_keep(self):
        run = ([(2, 3), (1, 0)], 2)
        wanted = ("keep", 2, 1)
        self.assertEqual([trace(run, wanted, place) for place in range(10)], [0, 3, 3, 4, 7, 7, 8, 8, 9, 10])
        self.assertEqual([offspring(run, wanted, place) for place in range(11)],
                         [(0, 0), None, None, (1, 2), (3, 3), None, None, (4, 5), (6, 7), (8, 8), (9, 9)])

    def test_lf(self):
        run = ([(1, 1)], 1)
        wanted = ("lf", 1, 0, 2, 1)
        self.assertEqual([trace(run, wanted, place) for place in range(8)], [1] * 4 + [2] * 4)
        self.assertEqual([offspring(run, wanted, place) for place in range(3)], [None, (0, 3), (4, 7)])

    def test_cr(self):
        run = ([(1, 1)], 1)
        wanted = ("cr", 0, 1, 2)
        self.assertEqual([trace(run, wanted, place) for place in range(8)], [0, 0, 1, 1, 1, 1, 2, 2])
        self.assertEqual([offspring(run, wanted, place) for place in range(3)], [(0, 1), (2, 5), (6, 7)])

    def test_the_form_of_the_empty_chain(self):
        run = ([(2, 3), (1, 0)], 2)
        for place in range(11):
            self.assertEqual(trace(run, ("keep", 0, 0), place), place)
            self.assertEqual(offspring(run, ("keep", 0, 0), place), (place, place))

    def test_the_kinds_of_values(self):
        self.assertIs(type(offspring(([], 2), ("cr", 0, 0, 1), 1)), tuple)
        self.assertIsNone(offspring(([(1, 1)], 0), ("keep", 1, 0), 0))


class GreatTest(unittest.TestCase):
    def test_keep(self):
        g = GREAT
        run = ([(g, 3), (g - 1, 0), (2, g)], g - 2)
        wanted = ("keep", 2, g)
        # The groups have these lengths after the form, and 4, 1 and g + 1 before it.
        lengths = [1 + g + 1, g + 1, (g - 2) + g + 1]
        second = g * lengths[0]
        third = second + (g - 1) * lengths[1]
        rest = third + 2 * lengths[2]
        second_before, third_before, rest_before = 4 * g, 4 * g + g - 1, 4 * g + g - 1 + 2 * (g + 1)
        for place, before in [
                (0, 0), (1, 3), (lengths[0] - 1, 3), (lengths[0], 4), (lengths[0] + 1, 7),
                (second - 1, second_before - 1), (second, second_before), (second + g, second_before),
                (second + g + 1, second_before + 1), (third - 1, third_before - 1), (third, third_before),
                (third + g - 3, third_before + g - 3), (third + g - 2, third_before + g),
                (third + lengths[2] - 1, third_before + g), (third + lengths[2], third_before + g + 1),
                (rest - 1, rest_before - 1), (rest, rest_before), (rest + g - 3, rest_before + g - 3)]:
            self.assertEqual(trace(run, wanted, place), before, place)
        check_error(self, InvalidPlace, rest + g - 2, trace, run, wanted, rest + g - 2)
        for place, after in [
                (0, (0, 0)), (1, None), (2, None), (3, (1, lengths[0] - 1)), (4, (lengths[0], lengths[0])),
                (4 * (g - 1) + 3, (second - lengths[0] + 1, second - 1)), (second_before, (second, second + g)),
                (third_before - 1, (third - g - 1, third - 1)), (third_before, (third, third)),
                (third_before + g - 3, (third + g - 3, third + g - 3)), (third_before + g - 2, None),
                (third_before + g - 1, None), (third_before + g, (third + g - 2, third + lengths[2] - 1)),
                (rest_before, (rest, rest)), (rest_before + g - 3, (rest + g - 3, rest + g - 3))]:
            self.assertEqual(offspring(run, wanted, place), after, place)
        check_error(self, InvalidPlace, rest_before + g - 2, offspring, run, wanted, rest_before + g - 2)

    def test_lf_and_cr(self):
        g = GREAT
        run = ([(g, 1), (1, g)], 5)
        for wanted, width in [(("lf", 1, g, g - 1, g), (g - 1) * (g + 1)), (("cr", 1, g, g), g)]:
            # Each group of the first tuple has g + 1 units, that of the second one g - 1 + g + 1.
            total = (g * (g + 1) + 2 * g + 5) * width
            self.assertEqual(trace(run, wanted, 0), 1)
            self.assertEqual(trace(run, wanted, (g + 1) * width - 1), 1)
            self.assertEqual(trace(run, wanted, (g + 1) * width), 3)
            self.assertEqual(trace(run, wanted, g * (g + 1) * width - 1), 2 * g - 1)
            self.assertEqual(trace(run, wanted, g * (g + 1) * width), 2 * g)
            self.assertEqual(trace(run, wanted, (g * (g + 1) + g - 1) * width - 1), 2 * g + g - 2)
            self.assertEqual(trace(run, wanted, (g * (g + 1) + g - 1) * width), 2 * g + g)
            self.assertEqual(trace(run, wanted, total - 5 * width), 3 * g + 1)
            self.assertEqual(trace(run, wanted, total - 1), 3 * g + 5)
            check_error(self, InvalidPlace, total, trace, run, wanted, total)
            self.assertEqual(offspring(run, wanted, 0), None)
            self.assertEqual(offspring(run, wanted, 1), (0, (g + 1) * width - 1))
            self.assertEqual(offspring(run, wanted, 2 * g - 2), None)
            self.assertEqual(offspring(run, wanted, 2 * g + g - 1), None)
            self.assertEqual(offspring(run, wanted, 3 * g + 5), (total - width, total - 1))
            check_error(self, InvalidPlace, 3 * g + 6, offspring, run, wanted, 3 * g + 6)

    def test_drawn_runs_of_40_tuples(self):
        drawn = random.Random(7)
        for _ in range(60):
            many_tuples = drawn.choice([1, 2, 5, 40])
            # Odd and even numbers of returns in turn, so neighbours differ.
            groups = [(drawn.randrange(1, 10 ** 30), 2 * drawn.randrange(10 ** drawn.randrange(30)) + at % 2)
                      for at in range(many_tuples)]
            run = (groups, drawn.randrange(10 ** 30))
            b, a, k, c = [drawn.randrange(10 ** drawn.randrange(1, 30)) for _ in range(4)]
            for wanted in [("keep", b, a), ("lf", b, a, k + 1, c), ("cr", b, a, k + 1)]:
                self.check_drawn(drawn, run, wanted)

    def check_drawn(self, drawn, run, wanted):
        """Check that both functions agree at drawn places of a great run and beside what stems from them."""
        total = size(apply_form(run, wanted))
        for place in [drawn.randrange(total) for _ in range(5)] + [0, total - 1]:
            first, last = offspring(run, wanted, trace(run, wanted, place))
            self.assertTrue(first <= place <= last)
        for place in [drawn.randrange(size(run)) for _ in range(5)] + [size(run) - 1]:
            places = offspring(run, wanted, place)
            if places is not None:
                self.assertEqual([trace(run, wanted, each) for each in places], [place, place])
                self.assertTrue(places[0] == 0 or trace(run, wanted, places[0] - 1) < place)
                self.assertTrue(places[1] == total - 1 or trace(run, wanted, places[1] + 1) > place)

    def test_returned_runs_and_forms(self):
        wanted = powered(("lf", 2, 3, GREAT, GREAT), 60)
        run = apply_form(([(GREAT, 5)], 0), wanted)
        total = size(apply_form(run, wanted))
        self.assertEqual(trace(run, wanted, total - 1), size(run) - 1)
        self.assertEqual(offspring(run, wanted, size(run) - 1)[1], total - 1)


class PlaceErrorsTest(unittest.TestCase):
    def test_each_kind_of_form(self):
        run = ([(1, 2)], 1)
        for wanted, total in [(("keep", 1, 0), 3), (("keep", 0, 3), 7), (("lf", 1, 1, 2, 2), 24),
                              (("cr", 3, 1, 5), 15)]:
            trace(run, wanted, total - 1)
            for place in [-1, total, total + 1, -GREAT, GREAT * GREAT]:
                check_error(self, InvalidPlace, place, trace, run, wanted, place)
            offspring(run, wanted, 3)
            for place in [-1, 4, 5, -GREAT, GREAT * GREAT]:
                check_error(self, InvalidPlace, place, offspring, run, wanted, place)

    def test_the_run_without_characters(self):
        for wanted in small_forms(2):
            for place in [-1, 0, 1]:
                check_error(self, InvalidPlace, place, trace, ([], 0), wanted, place)
                check_error(self, InvalidPlace, place, offspring, ([], 0), wanted, place)

    def test_the_run_is_checked_first(self):
        for run, value in INVALID_RUNS:
            for wanted in [("keep", 0, 0), ("cr", 0, 0, 0), ()]:
                for place in [0, -1]:
                    check_error(self, InvalidRun, value, trace, run, wanted, place)
                    check_error(self, InvalidRun, value, offspring, run, wanted, place)

    def test_the_form_is_checked_before_the_place(self):
        for wanted in NO_FORMS:
            for run in [([], 0), ([(1, 2)], 3)]:
                for place in [0, -1, 100]:
                    check_error(self, InvalidForm, None, trace, run, wanted, place)
                    check_error(self, InvalidForm, None, offspring, run, wanted, place)
