"""[47] and [48]: weathers, their words, and what is come to in each word that is known ahead."""
import random
import unittest

from tests.helpers import (ANY, NO_TUPLES, NOT_MANY, NOT_POINT, NOT_POLYGON, NOT_WEATHER, Odd, check_arguments,
                           check_raised, deep, random_point, random_polygon, random_weather, slow_common,
                           slow_sum, slow_support, slow_words, wrong_given, wrong_index)
from windfigure.errors import InvalidFigures, InvalidNumber, InvalidPoint, InvalidPolygon, InvalidWeather, TooMany
from windfigure.points import is_side
from windfigure.weathers import barring_word, comes_known, is_weather, is_word, words

BOX = ((-1, -1, 1), (1, -1, 1), (1, 1, 1), (-1, 1, 1))
WEDGE = ((0, 0, 1), (1, -1, 1), (1, 1, 1))
DRIFT = ((1, 0, 1),)
REACH = ((-1, 0, 1), (1, 2, 1))
SKY = (((0, 0), (1, 0)),)
# From the first state on the second one is never come to.
APART = (((2, 0),), ((0, 0), (3, 1)))
TURNS = (((0, 1), (3, 2)), ((1, 0),), ((3, 2), (0, 0), (2, 1)))
ALL_WINDS = (((3, 0), (1, 0), (0, 0), (2, 0)),)
EXACTLY_300 = (((0, 2),), ((0, 1), (1, 1), (2, 1), (3, 1)), ((0, 0), (1, 0), (2, 1)))
EXACTLY_301 = (((0, 1), (1, 2)), ((0, 1), (1, 1), (2, 1)), ((0, 0), (1, 2)))
WEATHERS = [SKY, APART, TURNS, ALL_WINDS, EXACTLY_300, EXACTLY_301, (((3, 0),),)]


class Weathers(unittest.TestCase):
    def test_weathers(self):
        rng = random.Random(1)
        for value in WEATHERS + [random_weather(rng) for _ in range(50)]:
            self.assertIs(is_weather(value), True)
            self.assertIs(is_weather(value=value), True)

    def test_no_weathers(self):
        for value in NOT_WEATHER + [deep(2), deep(13), (Odd(),), ((Odd(),),), (((0, Odd()),),)]:
            self.assertIs(is_weather(value), False)


class Words(unittest.TestCase):
    def test_examples(self):
        self.assertEqual(words(SKY, 2), ((0, 0), (0, 1), (1, 0), (1, 1)))
        self.assertEqual(words(SKY, 1), ((0,), (1,)))
        self.assertEqual(words(APART, 6), ((2,) * 6,))
        self.assertEqual(words(TURNS, 1), ((0,), (3,)))
        self.assertEqual(words(TURNS, 2), ((0, 1), (3, 0), (3, 2), (3, 3)))
        self.assertEqual(words(ALL_WINDS, 1), ((0,), (1,), (2,), (3,)))

    def test_random_ones(self):
        rng = random.Random(2)
        for weather in WEATHERS + [random_weather(rng) for _ in range(60)]:
            for many in range(1, 7):
                slow = sorted(word for word, state in slow_words(weather, many))
                self.assertEqual(len(set(slow)), len(slow))
                if len(slow) > 300:
                    self.check_too_many(weather, many, len(slow))
                else:
                    self.assertEqual(words(weather, many), tuple(slow))

    def check_too_many(self, weather, many, number):
        with self.assertRaises(TooMany) as caught:
            words(weather, many)
        self.assertEqual(caught.exception.given, number)
        with self.assertRaises(TooMany) as caught:
            words(many=many, weather=weather)
        self.assertEqual(caught.exception.given, number)

    def test_300_and_more(self):
        self.assertEqual(len(words(EXACTLY_300, 6)), 300)
        self.check_too_many(EXACTLY_301, 6, 301)
        self.check_too_many(ALL_WINDS, 6, 4096)
        self.check_too_many(ALL_WINDS, 5, 1024)
        self.assertEqual(len(words(ALL_WINDS, 4)), 256)
        # The other functions have words of any number.
        self.assertIs(comes_known(ALL_WINDS, (BOX,) * 4, (0, 0, 1), ((6, 6, 1),), 6), True)
        self.assertIs(is_word(ALL_WINDS, (0, 1, 2, 3, 2, 1)), True)

    def test_is_word(self):
        self.assertIs(is_word(SKY, ()), True)
        self.assertIs(is_word(TURNS, ()), True)
        self.assertIs(is_word(SKY, (0, 1) * 500), True)
        self.assertIs(is_word(SKY, (0, 1) * 500 + (2,)), False)
        self.assertIs(is_word(TURNS, (3, 3, 0, 0, 1)), True)
        self.assertIs(is_word(TURNS, (3, 3, 0, 1)), False)
        self.assertIs(is_word(TURNS, (1,)), False)
        self.assertIs(is_word(APART, (0,)), False)
        self.assertIs(is_word(APART, (2, 2, 3)), False)
        self.assertIs(is_word(word=(2, 2), weather=APART), True)

    def test_is_word_of_all_short_tuples(self):
        for weather in WEATHERS:
            for many in range(1, 5):
                right = set(word for word, state in slow_words(weather, many))
                for code in range(5 ** many):
                    word = tuple(code // 5 ** k % 5 for k in range(many))
                    self.assertIs(is_word(weather, word), word in right)

    def test_is_word_of_values_of_any_kind(self):
        for value in ANY + [[0, 1], "01", [0], {0: 1}, 0, 1]:
            if type(value) is not tuple or len(value) > 0:
                self.assertIs(is_word(SKY, value), False)
        for wrong in ANY + [-1, 2, (0,), [0], "0", False, True, Odd()]:
            if type(wrong) is int and wrong in (0, 1):
                continue
            self.assertIs(is_word(SKY, (wrong,)), False)
            self.assertIs(is_word(SKY, (0, wrong)), False)
            self.assertIs(is_word(SKY, (wrong, 0)), False)


def slow_place_after(figures, place, word):
    here = (place,)
    for wind in word:
        here = slow_sum(here, figures[wind])
    return here


class Known(unittest.TestCase):
    def test_examples(self):
        self.assertIs(comes_known(SKY, (BOX, WEDGE), (0, 0, 1), DRIFT, 1), True)
        self.assertIs(comes_known(SKY, (BOX, WEDGE), (0, 0, 1), ((0, 1, 1),), 1), False)
        self.assertEqual(barring_word(SKY, (BOX, WEDGE), (0, 0, 1), ((0, 1, 1),), 1)[0], (1,))
        self.assertIsNone(barring_word(SKY, (BOX, WEDGE), (0, 0, 1), DRIFT, 1))

    def test_figures_without_an_area(self):
        # All that is reached is one point: the goal is just there, or a side parts both.
        for goal, told in [(((3, 0, 1),), True), (((3, 1, 1),), False), (((2, 0, 1),), False), (((3, -1, 1),), False),
                           (((4, 0, 1),), False), (((3, -1, 1), (3, 1, 1)), True)]:
            self.assertIs(comes_known((((0, 0),),), (DRIFT,), (0, 0, 1), goal, 3), told)
            self.check_pair((((0, 0),),), (DRIFT,), (0, 0, 1), goal, 3)
        for goal in [((2, 2, 1),), ((0, 2, 1),), ((0, 0, 1),), ((2, 3, 1),), ((-1, -1, 1), (5, 5, 1))]:
            self.check_pair((((0, 0), (1, 0)),), (DRIFT, REACH), (0, 0, 1), goal, 2)

    def test_figures_of_winds_that_do_not_come_and_too_many(self):
        self.assertIs(comes_known(APART, (BOX, BOX, DRIFT, BOX), (0, 0, 1), ((2, 0, 1),), 2), True)
        self.assertIs(comes_known(APART, (BOX, BOX, DRIFT, BOX, WEDGE, BOX), (0, 0, 1), ((2, 0, 1),), 2), True)
        self.assertIs(comes_known((((2, 0),),), (BOX, BOX, DRIFT), (0, 0, 1), ((1, 0, 1),), 2), False)

    def check_pair(self, weather, figures, place, goal, many):
        found = slow_words(weather, many)
        missed = [word for word, state in found
                  if slow_common(slow_place_after(figures, place, word), goal) is None]
        told = barring_word(weather, figures, place, goal, many)
        self.assertIs(comes_known(weather, figures, place, goal, many), missed == [])
        if not missed:
            self.assertIsNone(told)
            return 0
        self.assertIsInstance(told, tuple)
        word, side = told
        self.assertIn(word, [word for word, state in found])
        self.assertIn(word, missed)
        self.assertTrue(is_side(side))
        a, b, h = side
        self.assertLessEqual(slow_support(slow_place_after(figures, place, word), a, b), h)
        self.assertGreater(-slow_support(goal, -a, -b), h)
        return 1

    def test_random_ones(self):
        rng = random.Random(3)
        barred, rounds = 0, 160
        for _ in range(rounds):
            weather = random_weather(rng, 3, rng.choice((2, 3, 4)))
            if rng.random() < 0.3:
                figures = tuple(random_polygon(rng, 2, 2, (1, 1, 2)) for _ in range(4))
            else:
                figures = tuple(random_polygon(rng, 5, 3, (1, 1, 2)) for _ in range(4))
            many = rng.randint(1, 3)
            place = random_point(rng, 2)
            goal = random_polygon(rng, 4, 5, (1, 2))
            if rng.random() < 0.4:
                word = rng.choice(slow_words(weather, many))[0]
                goal = slow_place_after(figures, place, word)[:1]
            barred += self.check_pair(weather, figures, place, goal, many)
        self.assertGreater(min(barred, rounds - barred), 15)

    def test_six_hours(self):
        figures = (BOX, WEDGE, DRIFT, REACH)
        for goal in [((0, 0, 1),), ((6, 0, 1),), ((-3, -9, 1), (9, -9, 1), (9, 9, 1), (-3, 9, 1))]:
            for weather in (TURNS, APART):
                self.check_pair(weather, figures, (-1, 0, 2), goal, 6)

    def test_touching_is_coming(self):
        goal = ((2, 2, 1), (3, 2, 1), (2, 3, 1))
        self.assertIs(comes_known((((0, 0),),), (BOX,), (0, 0, 1), goal, 2), True)
        self.assertIs(comes_known((((0, 0),),), (BOX,), (-1, 0, 10 ** 30), goal, 2), False)
        self.check_pair((((0, 0),),), (BOX,), (0, 0, 1), ((9, 0, 1),), 2)
        self.check_pair((((0, 0),),), (BOX,), (-1, 0, 10 ** 30), goal, 2)


FIGURES = (BOX, WEDGE, DRIFT)
THREE = (((0, 0), (2, 0)),)
NOT_FIGURES = [(value, None) for value in NO_TUPLES + [list(FIGURES)]] + [
    (FIGURES[:at] + (wrong,) + FIGURES[at:], at) for at in range(4) for wrong in NOT_POLYGON] + [
    ((), 0), (FIGURES[:1], 1), (FIGURES[:2], 2), ((None,), 0), ((BOX, None), 1), ((BOX, BOX, BOX, BOX, None, None), 4)]
WEATHER = ("weather", THREE, wrong_given(NOT_WEATHER, InvalidWeather))
MANY = ("many", 2, wrong_given(NOT_MANY, InvalidNumber))


class WrongArguments(unittest.TestCase):
    def test_words(self):
        check_arguments(self, words, [WEATHER, MANY])
        check_arguments(self, is_word, [WEATHER, ("word", (0, 2), [])])

    def test_too_many_comes_last(self):
        check_raised(self, InvalidNumber, "given", 7, words, ALL_WINDS, 7)

    def test_known_ahead(self):
        rows = [WEATHER, ("figures", FIGURES, wrong_index(NOT_FIGURES, InvalidFigures)),
                ("place", (0, 0, 1), wrong_given(NOT_POINT, InvalidPoint)),
                ("goal", ((1, 1, 1),), wrong_given(NOT_POLYGON, InvalidPolygon)), MANY]
        check_arguments(self, comes_known, rows)
        check_arguments(self, barring_word, rows)

    def test_figures_of_winds_that_are_not_come_to_are_wanted(self):
        check_raised(self, InvalidFigures, "index", 3, comes_known, APART, FIGURES, (0, 0, 1), ((1, 0, 1),), 1)
        self.assertIs(comes_known(APART, FIGURES + (BOX,), (0, 0, 1), ((1, 0, 1),), 1), True)


if __name__ == "__main__":
    unittest.main()
