"""[27]: isles, and the legs that are free of them."""
import random
import unittest

from tests.helpers import (ISLE, NOT_POINT, ROW, SEVEN_CORNERS, TOUCHING, Odd, check_arguments, check_raised, not_isles,
                           pt, random_isles, random_outside, random_point, slow_enters, slow_free, slow_hull, spot,
                           wrong_given, wrong_index)
from windfigure.errors import InvalidIsles, InvalidPoint
from windfigure.isles import corners_of, free_legs, is_free, is_isles, isles_on

SQUARE = ((0, 0, 1), (2, 0, 1), (2, 2, 1), (0, 2, 1))
SIX_CORNERS = slow_hull([(-2, 0, 1), (-1, -1, 1), (1, -1, 1), (2, 0, 1), (1, 1, 1), (-1, 1, 1)])
RIGHT = [(), (ISLE,), ROW, (ISLE,) + ROW[:5], ROW[::-1], (SIX_CORNERS,), (ISLE, ROW[3])]
NOT_ISLES = not_isles()


class Kinds(unittest.TestCase):
    def test_isles(self):
        rng = random.Random(1)
        for value in RIGHT + [random_isles(rng, 6) for _ in range(40)]:
            self.assertIs(is_isles(value), True)
            self.assertIs(is_isles(value=value), True)

    def test_no_isles(self):
        for value, index in NOT_ISLES + [((Odd(),), 0), ((ISLE, Odd()), 1)]:
            self.assertIs(is_isles(value), False)

    def test_touching_ones(self):
        for other in TOUCHING:
            self.assertIs(is_isles((other,)), True)
            self.assertIs(is_isles((ISLE, other)), False)
            self.assertIs(is_isles((other, ISLE)), False)
            self.assertIs(is_isles((ROW[0], other, ROW[1], ISLE)), False)

    def test_numbers_of_corners_and_isles(self):
        self.assertEqual([len(SEVEN_CORNERS), len(SIX_CORNERS), len(ROW)], [7, 6, 6])
        self.assertIs(is_isles((SIX_CORNERS,)), True)
        self.assertIs(is_isles((SEVEN_CORNERS,)), False)
        self.assertIs(is_isles(ROW), True)
        self.assertIs(is_isles(ROW + (ISLE,)), False)

    def test_a_gap_however_small(self):
        near = ((3 * 10 ** 30 + 1, -10 ** 30, 10 ** 30), (4, -1, 1), (4, 0, 1))
        self.assertIs(is_isles((ISLE, near)), True)

    def test_corners(self):
        self.assertEqual(corners_of(()), ())
        self.assertEqual(corners_of((ISLE,)), ISLE)
        self.assertEqual(corners_of((ROW[1], ISLE, ROW[0])), ROW[1] + ISLE + ROW[0])
        self.assertEqual(corners_of(isles=ROW), sum(ROW, ()))


class Legs(unittest.TestCase):
    def check_leg(self, isles, start, goal, free):
        for one, two in [(start, goal), (goal, start)]:
            self.assertIs(is_free(isles, one, two), free, (one, two))
            self.assertIs(slow_free(isles, one, two), free)

    def test_rims_are_touched_and_followed(self):
        self.check_leg((SQUARE,), (0, 0, 1), (2, 0, 1), True)
        self.check_leg((SQUARE,), (-1, 0, 1), (3, 0, 1), True)
        self.check_leg((SQUARE,), (1, 0, 2), (3, 0, 2), True)
        self.check_leg((SQUARE,), (-1, 1, 1), (1, -1, 1), True)
        self.check_leg((SQUARE,), (1, -1, 1), (1, 0, 1), True)
        self.check_leg((SQUARE,), (0, 0, 1), (0, 0, 1), True)
        self.check_leg((SQUARE,), (2, 1, 1), (2, 1, 1), True)
        self.check_leg((SQUARE,), (2, 0, 1), (5, 3, 1), True)

    def test_crossing_beginning_and_ending_inside(self):
        self.check_leg((SQUARE,), (0, 0, 1), (2, 2, 1), False)
        self.check_leg((SQUARE,), (1, 0, 1), (2, 1, 1), False)
        self.check_leg((SQUARE,), (-1, 1, 1), (3, 1, 1), False)
        self.check_leg((SQUARE,), (1, 1, 1), (9, 9, 1), False)
        self.check_leg((SQUARE,), (1, 1, 2), (3, 3, 2), False)
        self.check_leg((SQUARE,), (1, 1, 1), (2, 1, 1), False)
        self.check_leg((SQUARE,), (1, 1, 1), (1, 1, 1), False)
        self.check_leg((SQUARE,), (-1, 1, 1), (10 ** 30, -10 ** 30 + 1, 10 ** 30), False)

    def test_beyond(self):
        self.check_leg((SQUARE,), (3, 1, 1), (5, 1, 1), True)
        self.check_leg((SQUARE,), (3, 1, 1), (3, 1, 1), True)
        self.check_leg((SQUARE,), (-1, -1, 1), (-1, 3, 1), True)
        self.check_leg((), (3, 1, 1), (5, 1, 1), True)
        self.check_leg((), (3, 1, 1), (3, 1, 1), True)
        # On the line through its corners, but not so far.
        self.check_leg((SQUARE,), (3, 3, 1), (4, 4, 1), True)
        self.check_leg((SQUARE,), (-1, -1, 1), (0, 0, 1), True)

    def test_random_legs(self):
        rng = random.Random(2)
        free, barred = 0, 0
        for _ in range(150):
            isles = random_isles(rng, 6, 4)
            corners = corners_of(isles)
            for _ in range(8):
                start, goal = random_point(rng, 6), random_point(rng, 6)
                if corners and rng.random() < 0.4:
                    start = rng.choice(corners)
                if rng.random() < 0.3:
                    goal = random_outside(rng, isles)
                if rng.random() < 0.2:
                    goal = start
                if rng.random() < 0.2 and corners:
                    # Along the line through a corner.
                    (x, y), (u, v) = spot(start), spot(rng.choice(corners))
                    goal = pt(2 * u - x, 2 * v - y)
                on = tuple(k for k, isle in enumerate(isles) if slow_enters(isle, start, goal))
                self.assertEqual(isles_on(isles, start, goal), on)
                self.assertIs(is_free(isles, start, goal), on == ())
                free, barred = free + (on == ()), barred + (on != ())
        self.assertGreater(min(free, barred), 200)

    def test_isles_on(self):
        self.assertEqual(isles_on(ROW, (0, 1, 4), (99, 1, 4)), (0, 1, 2, 3, 4, 5))
        self.assertEqual(isles_on(ROW, (0, 0, 1), (99, 0, 1)), ())
        self.assertEqual(isles_on(ROW, (47, 1, 4), (53, 1, 4)), (2, 3))
        self.assertEqual(isles_on((ROW[0], ISLE), (2, 0, 1), (2, 0, 1)), (1,))
        self.assertEqual(isles_on(goal=(4, 0, 1), start=(0, 0, 1), isles=(ROW[0], ISLE)), (1,))

    def test_free_legs(self):
        self.assertEqual(free_legs(()), ())
        self.assertEqual(free_legs((SQUARE,)), ((0, 1), (0, 3), (1, 2), (2, 3)))
        self.assertEqual(free_legs((ISLE,)), ((0, 1), (0, 2), (1, 2)))
        rng = random.Random(3)
        for isles in RIGHT + [random_isles(rng, 6, 4) for _ in range(40)]:
            corners = corners_of(isles)
            self.assertEqual(free_legs(isles), tuple(
                (i, j) for i in range(len(corners)) for j in range(i + 1, len(corners))
                if slow_free(isles, corners[i], corners[j])))


ISLES = ("isles", (ISLE,) + ROW[:2], wrong_index(NOT_ISLES, InvalidIsles))
START = ("start", (0, 0, 1), wrong_given(NOT_POINT, InvalidPoint))
GOAL = ("goal", (2, 0, 1), wrong_given(NOT_POINT, InvalidPoint))


class WrongArguments(unittest.TestCase):
    def test_isles(self):
        check_arguments(self, corners_of, [ISLES])
        check_arguments(self, free_legs, [ISLES])

    def test_legs(self):
        check_arguments(self, is_free, [ISLES, START, GOAL])
        check_arguments(self, isles_on, [ISLES, START, GOAL])

    def test_the_first_wrong_isle(self):
        check_raised(self, InvalidIsles, "index", 1, corners_of, (ISLE, ISLE, None))
        check_raised(self, InvalidIsles, "index", 6, corners_of, ROW + ROW)
        check_raised(self, InvalidIsles, "index", 4, corners_of, ROW[:4] + (ROW[3],) + ROW[4:])


if __name__ == "__main__":
    unittest.main()
