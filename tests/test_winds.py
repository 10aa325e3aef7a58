"""[18] to [20]: ways and courses in a wind, and the critical winds."""
import random
import unittest
from fractions import Fraction
from math import isqrt

from tests.helpers import (NOT_DIRECTION, NOT_FIGURE, NOT_POINT, NOT_TIME, check_arguments, num, pt,
                           random_figure, random_point, spot, wrong_given, wrong_index)
from tests.slow import SOME_DIRECTIONS, random_course, random_way, slow_critical, slow_square, told, turn_key
from tests.wrong import BEAM, BOX, DIAMOND, KITE, WEDGE, WRONG_COURSE
from windfigure.errors import InvalidCourse, InvalidFigure, InvalidPoint, InvalidTime, InvalidWind
from windfigure.points import is_direction
from windfigure.winds import critical_winds, is_in_time, time_square, turned_way

EAST = ((1, 0, 1),)
ROUND = ((1, 0, 1), (-1, 0, 1))
AXES = ((1, 0), (0, 1), (-1, 0), (0, -1))
FIGURES = [KITE, DIAMOND, BOX, WEDGE, BEAM]


class Squares(unittest.TestCase):
    def test_along_and_between_the_axes(self):
        self.assertEqual([time_square(DIAMOND, EAST, wind) for wind in AXES], [(1, 1)] * 4)
        self.assertEqual([time_square(DIAMOND, EAST, wind) for wind in ((1, 1), (-1, 1), (-1, -1), (1, -1))],
                         [(2, 1)] * 4)
        self.assertEqual([time_square(BOX, EAST, wind) for wind in ((1, 0), (1, 1))], [(1, 1), (1, 2)])
        self.assertEqual([time_square(KITE, EAST, wind) for wind in AXES], [(1, 9), (1, 1), (1, 1), (1, 1)])
        self.assertEqual(time_square(KITE, EAST, (3, 4)), told(slow_square(KITE, EAST, (3, 4))))
        # (3, 4) has the length 5: the way turned back is (3, -4) / 5.
        self.assertEqual(time_square(BOX, EAST, (3, 4)), (16, 25))
        self.assertEqual(time_square(BOX, ((-1, 0, 3),), (3, 4)), (16, 225))

    def test_ways_without_a_time(self):
        self.assertEqual([time_square(WEDGE, EAST, wind) for wind in AXES], [(1, 1), None, None, None])
        self.assertEqual([time_square(WEDGE, EAST, wind) for wind in ((1, 1), (1, -1), (1, 2))],
                         [(1, 2), (1, 2), None])
        self.assertIsNone(time_square(WEDGE, ROUND, (1, 0)))
        self.assertEqual([time_square(BEAM, ROUND, wind) for wind in AXES], [(4, 1), None, (4, 1), None])
        self.assertIsNone(time_square(BEAM, ROUND, (10 ** 20, 1)))
        self.assertEqual(time_square(BEAM, EAST, (0, -1)), (1, 9))

    def test_sums_of_times(self):
        self.assertEqual(time_square(DIAMOND, EAST * 6, (1, 1)), (72, 1))
        self.assertEqual(time_square(KITE, ROUND, (1, 0)), (16, 9))
        self.assertEqual(time_square(KITE, ((3, 0, 1), (0, 2, 1)), (1, 0)), (9, 1))

    def test_random_ones(self):
        rng = random.Random(1)
        none = 0
        for _ in range(400):
            figure, course, wind = random_figure(rng), random_course(rng, 6), rng.choice(SOME_DIRECTIONS)
            if rng.random() < 0.3:
                figure = rng.choice(FIGURES)
            slow = slow_square(figure, course, wind)
            none += slow is None
            self.assertEqual(time_square(figure, course, wind), told(slow))
        self.assertTrue(50 < none < 350, none)

    def test_a_way_turned_back_with_its_wind(self):
        # Turned by the same turn, the way takes the time that it takes in the wind (1, 0).
        rng = random.Random(2)
        for _ in range(60):
            figure, (x, y) = random_figure(rng), spot(random_way(rng))
            for c, s, length in ((3, 4, 5), (-5, 12, 13), (8, -15, 17), (-20, -21, 29)):
                turned = pt((c * x - s * y) / length, (s * x + c * y) / length)
                self.assertEqual(time_square(figure, (turned,), (c, s)), time_square(figure, (pt(x, y),), (1, 0)))


class InTime(unittest.TestCase):
    def test_at_above_and_below_the_time(self):
        self.assertIs(is_in_time(DIAMOND, EAST, (1, 1), (3, 2)), True)
        self.assertIs(is_in_time(DIAMOND, EAST, (1, 1), (7, 5)), False)
        self.assertIs(is_in_time(DIAMOND, EAST, (1, 0), (1, 1)), True)
        self.assertIs(is_in_time(DIAMOND, EAST, (1, 0), (10 ** 20 - 1, 10 ** 20)), False)
        self.assertIs(is_in_time(DIAMOND, EAST, (1, 0), (0, 1)), False)
        self.assertIs(is_in_time(BOX, EAST, (3, 4), (4, 5)), True)
        self.assertIs(is_in_time(BOX, EAST, (3, 4), (799, 1000)), False)
        self.assertIs(is_in_time(WEDGE, EAST, (0, 1), (10 ** 20, 1)), False)
        # Fractions just above and just below the root of 2.
        great = 10 ** 36
        root = isqrt(2 * great * great)
        self.assertIs(is_in_time(DIAMOND, EAST, (1, 1), told(Fraction(root, great))), False)
        self.assertIs(is_in_time(DIAMOND, EAST, (1, 1), told(Fraction(root + 1, great))), True)

    def test_random_ones(self):
        rng = random.Random(3)
        seen = {True: 0, False: 0}
        for _ in range(200):
            figure, course, wind = random_figure(rng), random_course(rng), rng.choice(SOME_DIRECTIONS)
            slow = slow_square(figure, course, wind)
            time = Fraction(rng.randint(0, 40), rng.randint(1, 9))
            times = [time]
            if slow is not None:
                # Just the root where it is a fraction, and the nearest ones beside it.
                top = isqrt(slow.numerator * slow.denominator * 10 ** 20)
                times += [Fraction(top + k, slow.denominator * 10 ** 10) for k in (-1, 0, 1)]
            for time in times:
                right = slow is not None and slow <= time * time
                self.assertIs(is_in_time(figure, course, wind, told(time)), right)
                seen[right] += 1
        self.assertGreater(min(seen.values()), 100)


class Critical(unittest.TestCase):
    def test_each_once_in_order(self):
        self.assertEqual(critical_winds(DIAMOND, EAST), AXES)
        self.assertEqual(critical_winds(DIAMOND, ROUND), AXES)
        self.assertEqual(critical_winds(WEDGE, EAST), ((1, 1), (1, -1)))
        self.assertEqual(critical_winds(WEDGE, ROUND), ((1, 1), (-1, 1), (-1, -1), (1, -1)))
        self.assertEqual(critical_winds(KITE, EAST), ((1, 0), (1, 2), (-1, 0), (1, -2)))
        self.assertEqual(critical_winds(KITE, ((2, 4, 7),)), ((1, 0), (1, 2), (-3, 4), (-1, -2)))

    def test_by_their_words(self):
        rng = random.Random(4)
        for _ in range(150):
            figure, course = random_figure(rng), random_course(rng, 6)
            found = critical_winds(figure, course)
            self.assertEqual(found, tuple(slow_critical(figure, course)))
            self.assertTrue(all(is_direction(wind) for wind in found))
            self.assertEqual(sorted(found, key=turn_key), list(found))
            for wind in found:
                backs = [spot(turned_way(way, wind)) for way in course]
                self.assertTrue(any(x * v == y * u and x * u + y * v > 0 for x, y in backs
                                    for u, v in map(spot, figure)))


class TurnedWays(unittest.TestCase):
    def test_ways(self):
        self.assertEqual(turned_way((1, 0, 1), (1, 1)), (1, -1, 1))
        self.assertEqual(turned_way((3, 5, 7), (1, 0)), (3, 5, 7))
        self.assertEqual(turned_way((3, 5, 7), (0, 1)), (5, -3, 7))
        self.assertEqual(turned_way((3, 5, 7), (-1, 0)), (-3, -5, 7))
        self.assertEqual(turned_way((3, 5, 7), (0, -1)), (-5, 3, 7))
        self.assertEqual(turned_way((0, 0, 1), (3, -7)), (0, 0, 1))
        self.assertEqual(turned_way((1, 1, 2), (1, 1)), (1, 0, 1))
        rng = random.Random(5)
        for _ in range(100):
            way, (c, s) = random_point(rng), rng.choice(SOME_DIRECTIONS)
            x, y = spot(way)
            self.assertEqual(turned_way(way, (c, s)), pt(c * x + s * y, c * y - s * x))

    def test_time_of_the_turned_way(self):
        rng = random.Random(6)
        for _ in range(100):
            figure, way, wind = random_figure(rng), random_way(rng), rng.choice(SOME_DIRECTIONS)
            told_square = time_square(figure, (turned_way(way, wind),), (1, 0))
            square = time_square(figure, (way,), wind)
            if square is None:
                self.assertIsNone(told_square)
            else:
                self.assertEqual(num(told_square), num(square) * (wind[0] ** 2 + wind[1] ** 2))


FIGURE_ROW = ("figure", KITE, wrong_given(NOT_FIGURE, InvalidFigure))
COURSE_ROW = ("course", ((1, 0, 1), (2, -1, 3)), wrong_index(WRONG_COURSE, InvalidCourse))
WIND_ROW = ("wind", (2, -1), wrong_given(NOT_DIRECTION, InvalidWind))


class WrongArguments(unittest.TestCase):
    def test_time_square(self):
        check_arguments(self, time_square, [FIGURE_ROW, COURSE_ROW, WIND_ROW])

    def test_is_in_time(self):
        check_arguments(self, is_in_time, [FIGURE_ROW, COURSE_ROW, WIND_ROW,
                                           ("time", (3, 2), wrong_given(NOT_TIME, InvalidTime))])

    def test_critical_winds(self):
        check_arguments(self, critical_winds, [FIGURE_ROW, COURSE_ROW])

    def test_turned_way(self):
        check_arguments(self, turned_way, [("way", (2, 1, 3), wrong_given(NOT_POINT, InvalidPoint)), WIND_ROW])


if __name__ == "__main__":
    unittest.main()
