"""[49]: the places from which a boat is surely at the goal, winds seen as they come, and how it steers."""
import random
import unittest

from tests.helpers import (ANY, NO_TUPLES, NOT_MANY, NOT_POINT, NOT_POLYGON, NOT_WATER, NOT_WEATHER, Odd,
                           check_arguments, check_raised, in_hull, pt, random_point, random_polygon, random_weather,
                           slow_afloat, slow_common, slow_opposite, slow_sum, spot, wrong_given, wrong_index)
from windfigure.errors import (InvalidFigures, InvalidIndex, InvalidNumber, InvalidPoint, InvalidPolygon,
                               InvalidWater, InvalidWeather)
from windfigure.polygons import is_polygon
from windfigure.sureness import is_sure, steer, sure_places

BOX = ((-1, -1, 1), (1, -1, 1), (1, 1, 1), (-1, 1, 1))
WEDGE = ((0, 0, 1), (1, -1, 1), (1, 1, 1))
DRIFT = ((1, 0, 1),)
REACH = ((-1, 0, 1), (1, 2, 1))
SKY = (((0, 0), (1, 0)),)
GOAL = ((1, 0, 1),)
LAKE = ((-2, -2, 1), (4, -2, 1), (4, 2, 1), (-2, 2, 1))
TURNS = (((0, 1), (2, 2)), ((1, 0),), ((3, 2), (0, 0), (2, 1)))
# From the first state on the second one is never come to.
APART = (((2, 0),), ((0, 0), (3, 1)))
FIGURES = (BOX, WEDGE, DRIFT, REACH)


def slow_rows(weather, figures, goal, water, many):
    rows = [slow_afloat(water, goal) for _ in weather]
    for _ in range(many):
        rows = [slow_row(state, figures, water, rows) for state in weather]
    return rows


def slow_row(state, figures, water, rows):
    part = water
    for wind, later in state:
        if rows[later] is None:
            return None
        lead = slow_sum(rows[later], slow_opposite(figures[wind]))
        part = lead if part is None else slow_common(part, lead)
        if part is None:
            return None
    return part


def is_held(polygon, point):
    return polygon is not None and in_hull(spot(point), [spot(corner) for corner in polygon])


def random_case(rng):
    weather = random_weather(rng, 3, rng.choice((2, 3, 4)))
    figures = tuple(random_polygon(rng, rng.choice((1, 4, 6)), 3, (1, 1, 2)) for _ in range(4))
    water = None if rng.random() < 0.4 else random_polygon(rng, 6, 6, (1, 2))
    return weather, figures, random_polygon(rng, 5, 4, (1, 2)), water, rng.randint(1, 3)


class SurePlaces(unittest.TestCase):
    def test_examples(self):
        self.assertEqual(sure_places(SKY, (BOX, WEDGE), GOAL, None, 1, 0), ((0, -1, 1), (1, 0, 1), (0, 1, 1)))
        self.assertIs(is_sure(SKY, (BOX, WEDGE), GOAL, None, 1, (0, 0, 1)), True)
        self.assertIs(is_sure(SKY, (BOX, WEDGE), GOAL, None, 1, (2, 0, 1)), False)
        self.assertEqual(steer(SKY, (BOX, WEDGE), GOAL, None, 1, (0, 0, 1), 0, 1), (1, 0, 1))

    def test_the_water_cuts_each_hour(self):
        # In open water the boat comes back from beyond the lake; in the lake it may not leave it.
        there = (((0, 1),), ((1, 0),))
        out, back = ((3, 0, 1),), ((-3, 0, 1),)
        water = ((0, -1, 1), (2, -1, 1), (2, 1, 1), (0, 1, 1))
        self.assertEqual(sure_places(there, (out, back), ((0, 0, 1),), None, 2, 0), ((0, 0, 1),))
        self.assertIsNone(sure_places(there, (out, back), ((0, 0, 1),), water, 2, 0))
        self.assertIs(is_sure(there, (out, back), ((0, 0, 1),), water, 2, (0, 0, 1)), False)
        self.assertIsNone(steer(there, (out, back), ((0, 0, 1),), water, 2, (0, 0, 1), 0, 0))

    def test_a_goal_out_of_the_water(self):
        for state in range(3):
            self.assertIsNone(sure_places(TURNS, FIGURES, ((9, 9, 1),), LAKE, 2, state))
        self.assertIs(is_sure(TURNS, FIGURES, ((9, 9, 1),), LAKE, 1, (0, 0, 1)), False)
        self.assertIsNone(steer(TURNS, FIGURES, ((9, 9, 1),), LAKE, 1, (0, 0, 1), 0, 0))

    def test_each_state(self):
        self.assertEqual(sure_places(APART, FIGURES, GOAL, None, 2, 0), ((-1, 0, 1),))
        self.assertEqual(sure_places(APART, FIGURES, GOAL, None, 1, 1), slow_rows(APART, FIGURES, GOAL, None, 1)[1])
        self.assertEqual(sure_places((((0, 0),),), (BOX,), GOAL, None, 6, 0),
                         ((-5, -6, 1), (7, -6, 1), (7, 6, 1), (-5, 6, 1)))
        self.assertEqual(sure_places((((0, 0),),), (BOX,), GOAL, LAKE, 6, 0), LAKE)

    def test_random_ones(self):
        rng = random.Random(1)
        kinds = [0] * 4
        for _ in range(220):
            weather, figures, goal, water, many = random_case(rng)
            rows = slow_rows(weather, figures, goal, water, many)
            for state in range(len(weather)):
                told = sure_places(weather, figures, goal, water, many, state)
                self.assertEqual(told, rows[state])
                kinds[0 if told is None else min(len(told), 3)] += 1
                self.assertTrue(told is None or is_polygon(told))
            self.check_places(rng, weather, figures, goal, water, many)
        self.assertGreater(min(kinds), 4, kinds)

    def check_places(self, rng, weather, figures, goal, water, many):
        """A place is sure exactly if it is in the water and each wind of the state leads into what is sure then."""
        before = slow_rows(weather, figures, goal, water, many - 1)
        sure = sure_places(weather, figures, goal, water, many, 0)
        places = [random_point(rng, 4) for _ in range(4)]
        if sure is not None:
            (x, y), (u, v) = spot(sure[0]), spot(sure[-1])
            places += [sure[0], pt((x + u) / 2, (y + v) / 2), pt(2 * x - u, 2 * y - v)]
            places.append(pt(x - (u - x + 1) / 10 ** 9, y))
        for place in places:
            leads = water is None or is_held(water, place)
            for wind, later in weather[0]:
                reached = slow_sum((place,), figures[wind])
                leads = leads and before[later] is not None and slow_common(reached, before[later]) is not None
            self.assertIs(is_sure(weather, figures, goal, water, many, place), leads)
            self.assertIs(is_held(sure, place), leads)


class Steering(unittest.TestCase):
    def test_random_ones(self):
        rng = random.Random(2)
        some, none = 0, 0
        for _ in range(200):
            weather, figures, goal, water, many = random_case(rng)
            before = slow_rows(weather, figures, goal, water, many - 1)
            rows = slow_rows(weather, figures, goal, water, many)
            for state in range(len(weather)):
                place = random_point(rng, 3) if rows[state] is None or rng.random() < 0.4 else rng.choice(rows[state])
                for wind, later in weather[state]:
                    told = steer(weather, figures, goal, water, many, place, state, wind)
                    leads = slow_common(slow_sum((place,), figures[wind]), before[later]) if before[later] else None
                    if leads is None or (water is not None and not is_held(water, place)):
                        none += 1
                        self.assertIsNone(told)
                        continue
                    some += 1
                    self.assertTrue(is_held(figures[wind], told))
                    self.assertTrue(is_held(before[later], slow_sum((place,), (told,))[0]))
        self.assertGreater(min(some, none), 60)

    def test_whatever_other_winds_would_let(self):
        # The wind 1 does not lead back west; the wind 0 does, and what 1 would let plays no part.
        self.assertIs(is_sure(SKY, (BOX, WEDGE), GOAL, None, 1, (2, 0, 1)), False)
        self.assertEqual(steer(SKY, (BOX, WEDGE), GOAL, None, 1, (2, 0, 1), 0, 0), (-1, 0, 1))
        self.assertIsNone(steer(SKY, (BOX, WEDGE), GOAL, None, 1, (2, 0, 1), 0, 1))

    def test_a_place_out_of_the_water(self):
        water = ((0, -1, 1), (2, -1, 1), (2, 1, 1), (0, 1, 1))
        self.assertIsNone(steer(SKY, (BOX, WEDGE), GOAL, water, 1, (1, 2, 1), 0, 0))
        self.assertEqual(steer(SKY, (BOX, WEDGE), GOAL, None, 1, (1, 1, 1), 0, 0), (0, -1, 1))
        self.assertEqual(steer(SKY, (BOX, WEDGE), GOAL, water, 1, (1, 1, 1), 0, 0), (0, -1, 1))

    def test_the_last_hour_leads_to_the_goal_in_the_water(self):
        goal, water = ((1, 0, 1), (5, 0, 1)), ((0, 0, 1), (2, 0, 1))
        self.assertIsNone(steer((((0, 0),),), (((2, 0, 1),),), goal, water, 1, (1, 0, 1), 0, 0))
        self.assertEqual(steer((((0, 0),),), (((2, 0, 1),),), goal, None, 1, (1, 0, 1), 0, 0), (2, 0, 1))
        self.assertEqual(steer((((0, 0),),), (((2, 0, 1),),), goal, water, 1, (0, 0, 1), 0, 0), (2, 0, 1))

    def test_a_wind_that_the_state_does_not_have(self):
        good = (TURNS, FIGURES, GOAL, None, 2, (0, 0, 1))
        for state, winds in [(0, (0, 2)), (1, (1,)), (2, (0, 2, 3))]:
            for wind in range(-1, 5):
                if wind in winds:
                    steer(*good, state, wind)
                else:
                    check_raised(self, InvalidNumber, "given", wind, steer, *good, state, wind)


THREE = (((0, 0), (2, 1)), ((1, 1),))
NOT_FIGURES = [(value, None) for value in NO_TUPLES + [list(FIGURES)]] + [
    (FIGURES[:at] + (wrong,) + FIGURES[at:], at) for at in range(5) for wrong in NOT_POLYGON] + [
    ((), 0), (FIGURES[:1], 1), (FIGURES[:2], 2), ((BOX, None), 1)]
NOT_STATE = [value for value in ANY if not (type(value) is int and value in (0, 1))] + [2, -1, -2, [0], "0", (0,)]
NOT_WINDS = [value for value in ANY if not (type(value) is int and value in (0, 2))] + [
    1, 3, 4, -1, (0, 1), [0], "0", (0,), Odd()]
WEATHER = ("weather", THREE, wrong_given(NOT_WEATHER, InvalidWeather))
POLYGONS = ("figures", FIGURES, wrong_index(NOT_FIGURES, InvalidFigures))
HARBOUR = ("goal", GOAL, wrong_given(NOT_POLYGON, InvalidPolygon))
WATER = ("water", LAKE, wrong_given(NOT_WATER, InvalidWater))
MANY = ("many", 2, wrong_given(NOT_MANY, InvalidNumber))
PLACE = ("place", (0, 0, 1), wrong_given(NOT_POINT, InvalidPoint))
STATE = ("state", 0, wrong_given(NOT_STATE, InvalidIndex))
WIND = ("wind", 2, wrong_given(NOT_WINDS, InvalidNumber))


class WrongArguments(unittest.TestCase):
    def test_sure_places(self):
        check_arguments(self, sure_places, [WEATHER, POLYGONS, HARBOUR, WATER, MANY, STATE])

    def test_is_sure(self):
        check_arguments(self, is_sure, [WEATHER, POLYGONS, HARBOUR, WATER, MANY, PLACE])

    def test_steer(self):
        check_arguments(self, steer, [WEATHER, POLYGONS, HARBOUR, WATER, MANY, PLACE, STATE, WIND])

    def test_figures_may_be_too_many(self):
        told = sure_places(SKY, (BOX, WEDGE) + (DRIFT,) * 9, GOAL, None, 1, 0)
        self.assertEqual(told, ((0, -1, 1), (1, 0, 1), (0, 1, 1)))


if __name__ == "__main__":
    unittest.main()
