"""[12] and [13]: figures and the least times of ways."""
import random
import unittest
from fractions import Fraction

from tests.helpers import (NOT_FIGURE, NOT_POINT, check_arguments, in_hull, num, pair, pt, random_figure, random_point,
                           slow_time, spot, wrong_given)
from windfigure.errors import InvalidFigure, InvalidPoint
from windfigure.figures import is_figure, time_of
from windfigure.points import is_time

KITE = ((-1, 0, 1), (1, -2, 1), (3, 0, 1), (1, 2, 1))
RUNNER = ((0, 0, 1), (2, 0, 1), (0, 2, 1))
# Nought lies on the middle of an edge.
BEAM = ((-1, 0, 1), (1, 0, 1), (0, 3, 1))
FIGURES = [KITE, RUNNER, BEAM]


class Kinds(unittest.TestCase):
    def test_figures(self):
        rng = random.Random(1)
        for value in FIGURES + [random_figure(rng) for _ in range(40)]:
            self.assertIs(is_figure(value), True)
            self.assertIs(is_figure(value=value), True)

    def test_no_figures(self):
        for value in NOT_FIGURE:
            self.assertIs(is_figure(value), False)


class Times(unittest.TestCase):
    def test_examples(self):
        self.assertEqual([time_of(KITE, (6, 0, 1)), time_of(KITE, (-2, 2, 1)), time_of(RUNNER, (3, 1, 1)),
                          time_of(RUNNER, (-1, 0, 1))], [(2, 1), (4, 1), (2, 1), None])

    def test_nought_and_the_rim_of_a_figure(self):
        for figure in FIGURES:
            self.assertEqual(time_of(figure, (0, 0, 1)), (0, 1))
        self.assertEqual(time_of(BEAM, (-5, 0, 1)), (5, 1))
        self.assertIsNone(time_of(BEAM, (-5, -1, 10 ** 20)))
        self.assertIsNone(time_of(RUNNER, (-1, 5, 1)))
        self.assertEqual(time_of(RUNNER, (0, 5, 1)), (5, 2))
        self.assertEqual(time_of(KITE, (3, 0, 1)), (1, 1))
        self.assertEqual(time_of(KITE, (1, 0, 10 ** 20)), (1, 3 * 10 ** 20))

    def test_random_ones(self):
        rng = random.Random(2)
        for _ in range(300):
            figure, way = random_figure(rng), random_point(rng)
            slow = slow_time(figure, way)
            told = time_of(figure, way)
            self.assertEqual(told, None if slow is None else pair(slow))
            x, y = spot(way)
            if told is None:
                self.assertFalse(in_hull((x / 10 ** 9, y / 10 ** 9), [spot(corner) for corner in figure]))
            elif told != (0, 1):
                self.assertTrue(is_time(told))
                self.check_least(figure, x, y, num(told))

    def check_least(self, figure, x, y, time):
        spots = [spot(corner) for corner in figure]
        self.assertTrue(in_hull((x / time, y / time), spots))
        self.assertTrue(in_hull((x / (time + 1), y / (time + 1)), spots))
        less = time * Fraction(10 ** 12 - 1, 10 ** 12)
        self.assertFalse(in_hull((x / less, y / less), spots))

    def test_a_way_along_a_corner_or_an_edge(self):
        rng = random.Random(3)
        for _ in range(60):
            figure = random_figure(rng)
            for k, corner in enumerate(figure):
                a, b = spot(corner), spot(figure[k - 1])
                middle = pt((a[0] + b[0]) / 2, (a[1] + b[1]) / 2)
                for point in (corner, middle):
                    told = time_of(figure, point)
                    self.assertLessEqual(num(told), 1)


class WrongArguments(unittest.TestCase):
    def test_time_of(self):
        check_arguments(self, time_of, [("figure", KITE, wrong_given(NOT_FIGURE, InvalidFigure)),
                                        ("way", (2, 1, 3), wrong_given(NOT_POINT, InvalidPoint))])


if __name__ == "__main__":
    unittest.main()
