"""[6], [7], [18]: fractions, points, sides, directions."""
import random
import unittest
from fractions import Fraction
from math import atan2

from tests.helpers import (ANY, NOT_DIRECTION, NOT_FRACTION, NOT_POINT, NOT_SIDE, check_arguments, check_raised, cross,
                           num, pair, pt, random_point, spot, wrong_given)
from windfigure.errors import InvalidDirection, InvalidFraction, InvalidPoint, InvalidSide, Same
from windfigure.points import (between, direction_of, excess, is_direction, is_earlier, is_fraction, is_point, is_side,
                               minus, plus, point_at, sense, side_through, times)

FRACTIONS = [(0, 1), (1, 1), (-1, 1), (1, 2), (-3, 2), (7, 3), (10 ** 50, 3), (-1, 10 ** 50)]
POINTS = [(0, 0, 1), (1, 0, 1), (0, 1, 1), (-1, 0, 1), (1, 1, 2), (3, 4, 6), (-2, 5, 3), (2, 0, 1), (0, -7, 4)]
WRONG_POINTS = wrong_given(NOT_POINT, InvalidPoint)
WRONG_FRACTIONS = wrong_given(NOT_FRACTION, InvalidFraction)
WRONG_SIDES = wrong_given(NOT_SIDE, InvalidSide)
WRONG_DIRECTIONS = wrong_given(NOT_DIRECTION, InvalidDirection)


class Kinds(unittest.TestCase):
    def check_kind(self, asked, good, bad):
        for value in good:
            self.assertIs(asked(value), True, value)
            self.assertIs(asked(value=value), True)
        for value in bad:
            self.assertIs(asked(value), False)

    def test_fractions(self):
        self.check_kind(is_fraction, FRACTIONS, NOT_FRACTION)

    def test_points(self):
        good = POINTS + [(2, 4, 3), (2, 4, 5), (6, 10, 15), (0, 3, 2), (-6, 10, 15), (10 ** 50, 0, 1)]
        self.check_kind(is_point, good, NOT_POINT)

    def test_sides(self):
        good = [(1, 0, 0), (0, 1, 0), (-1, 0, 5), (2, 4, 3), (6, 10, 15), (0, 2, -1), (3, -4, 0), (1, 0, 10 ** 50)]
        self.check_kind(is_side, good, NOT_SIDE)

    def test_directions(self):
        good = [(1, 0), (0, 1), (-1, 0), (0, -1), (2, 3), (-5, 1), (1, -10 ** 50)]
        self.check_kind(is_direction, good, NOT_DIRECTION)

    def test_all_kinds_of_values_are_asked_without_an_error(self):
        for value in ANY:
            for asked in (is_fraction, is_point, is_side, is_direction):
                self.assertIs(asked(value), False)


class Sums(unittest.TestCase):
    def test_point_at(self):
        self.assertEqual(point_at((1, 2), (2, 3)), (3, 4, 6))
        self.assertEqual(point_at((0, 1), (0, 1)), (0, 0, 1))
        self.assertEqual(point_at((-1, 2), (3, 2)), (-1, 3, 2))
        self.assertEqual(point_at((1, 4), (-5, 6)), (3, -10, 12))
        for east in FRACTIONS:
            for north in FRACTIONS:
                self.assertEqual(spot(point_at(east, north)), (num(east), num(north)))
                self.assertTrue(is_point(point_at(east, north)))

    def test_plus_and_minus(self):
        for one in POINTS:
            for two in POINTS:
                (x, y), (u, v) = spot(one), spot(two)
                self.assertEqual(plus(one, two), pt(x + u, y + v))
                self.assertEqual(minus(one, two), pt(x - u, y - v))
        self.assertEqual(minus((3, 4, 6), (3, 4, 6)), (0, 0, 1))

    def test_times(self):
        for point in POINTS:
            for fraction in FRACTIONS:
                x, y = spot(point)
                self.assertEqual(spot(times(point, fraction)), (x * num(fraction), y * num(fraction)))
                self.assertTrue(is_point(times(point, fraction)))
        self.assertEqual(times((3, -4, 6), (0, 1)), (0, 0, 1))
        self.assertEqual(times((3, 4, 6), (-2, 1)), (-3, -4, 3))

    def test_between(self):
        self.assertEqual(between((1, 0, 1), (3, 4, 1), (0, 1)), (1, 0, 1))
        self.assertEqual(between((1, 0, 1), (3, 4, 1), (1, 1)), (3, 4, 1))
        self.assertEqual(between((1, 0, 1), (3, 4, 1), (3, 2)), (4, 6, 1))
        self.assertEqual(between((1, 0, 1), (3, 4, 1), (-1, 2)), (0, -2, 1))
        self.assertEqual(between((1, 1, 2), (1, 1, 2), (7, 3)), (1, 1, 2))
        for one in POINTS:
            for two in POINTS:
                for fraction in FRACTIONS[:6]:
                    (x, y), (u, v), r = spot(one), spot(two), num(fraction)
                    self.assertEqual(between(one, two, fraction), pt(x + r * (u - x), y + r * (v - y)))

    def test_nothing_is_changed_and_equal_calls_are_equal(self):
        rng = random.Random(1)
        for _ in range(20):
            one, two = random_point(rng), random_point(rng)
            self.assertEqual(plus(one, two), plus(tuple(one), tuple(two)))


class Lines(unittest.TestCase):
    def test_sense(self):
        self.assertEqual(sense((0, 0, 1), (1, 0, 1), (0, 1, 1)), 1)
        self.assertEqual(sense((0, 0, 1), (1, 0, 1), (5, -1, 9)), -1)
        self.assertEqual(sense((0, 0, 1), (1, 0, 1), (5, 0, 3)), 0)
        self.assertEqual(sense((1, 1, 2), (1, 1, 2), (3, 0, 1)), 0)
        self.assertEqual(sense((1, 1, 2), (3, 0, 1), (1, 1, 2)), 0)
        self.assertEqual(sense((1, 1, 2), (3, 0, 1), (3, 0, 1)), 0)
        for one in POINTS:
            for two in POINTS:
                for three in POINTS:
                    left = cross(spot(one), spot(two), spot(three))
                    told = sense(one, two, three)
                    self.assertEqual(told, (left > 0) - (left < 0))
                    self.assertIs(type(told), int)

    def test_side_through(self):
        self.assertEqual(side_through((1, 0, 1), (0, 1, 1)), (1, 1, 1))
        self.assertEqual(side_through((0, 1, 1), (1, 0, 1)), (-1, -1, -1))
        self.assertEqual(side_through((0, 0, 1), (6, 0, 1)), (0, -1, 0))
        self.assertEqual(side_through((1, 1, 2), (1, 3, 2)), (2, 0, 1))
        for one in POINTS:
            for two in POINTS:
                if one != two:
                    side = side_through(one, two)
                    self.assertTrue(is_side(side))
                    self.assertEqual([excess(side, one), excess(side, two)], [(0, 1), (0, 1)])
                    for three in POINTS:
                        outside = num(excess(side, three))
                        self.assertEqual((outside < 0) - (outside > 0), sense(one, two, three))

    def test_same_comes_last(self):
        for point in POINTS:
            again = tuple(list(point))
            check_raised(self, Same, "given", again, side_through, point, again)
            check_raised(self, Same, "given", again, side_through, other=again, point=point)

    def test_excess(self):
        self.assertEqual(excess((1, 1, 1), (1, 1, 1)), (1, 1))
        self.assertEqual(excess((2, 0, 1), (1, 5, 4)), (-1, 2))
        self.assertEqual(excess((2, 0, 1), (1, 5, 2)), (0, 1))
        for side in [(1, 0, 0), (2, -3, 5), (0, -1, -4), (6, 10, 15)]:
            for point in POINTS:
                x, y = spot(point)
                self.assertEqual(excess(side, point), pair(side[0] * x + side[1] * y - side[2]))


class Directions(unittest.TestCase):
    def test_direction_of(self):
        self.assertEqual(direction_of((4, -6, 3)), (2, -3))
        self.assertIsNone(direction_of((0, 0, 1)))
        self.assertEqual(direction_of((0, -7, 4)), (0, -1))
        self.assertEqual(direction_of((-3, 0, 1)), (-1, 0))
        self.assertEqual(direction_of((5, 7, 9)), (5, 7))

    def test_order_of_directions(self):
        found = [(c, s) for c in range(-4, 5) for s in range(-4, 5) if is_direction((c, s))]
        turn = 2 * atan2(0, -1)
        found.sort(key=lambda d: atan2(d[1], d[0]) % turn)
        self.assertEqual(found[0], (1, 0))
        for i, one in enumerate(found):
            for j, two in enumerate(found):
                self.assertIs(is_earlier(one, two), i < j, (one, two))

    def test_order_of_the_axes_and_of_opposite_directions(self):
        axes = [(1, 0), (0, 1), (-1, 0), (0, -1)]
        for i in range(4):
            for j in range(4):
                self.assertIs(is_earlier(axes[i], axes[j]), i < j)
        self.assertIs(is_earlier((3, 2), (-3, -2)), True)
        self.assertIs(is_earlier((-3, -2), (3, 2)), False)
        self.assertIs(is_earlier((10 ** 30, 1), (10 ** 30 + 1, 1)), False)
        self.assertIs(is_earlier((10 ** 30 + 1, 1), (10 ** 30, 1)), True)
        self.assertIs(is_earlier((5, 1), (5, 1)), False)


class WrongArguments(unittest.TestCase):
    def test_one_point(self):
        check_arguments(self, direction_of, [("way", (4, 2, 1), WRONG_POINTS)])

    def test_two_points(self):
        for call in (plus, minus, side_through):
            check_arguments(self, call, [("point", (1, 0, 1), WRONG_POINTS), ("other", (0, 1, 2), WRONG_POINTS)])

    def test_three_points(self):
        check_arguments(self, sense, [("point", (1, 0, 1), WRONG_POINTS), ("other", (0, 1, 2), WRONG_POINTS),
                                      ("third", (3, 1, 2), WRONG_POINTS)])

    def test_fractions(self):
        check_arguments(self, point_at, [("east", (1, 2), WRONG_FRACTIONS), ("north", (-1, 3), WRONG_FRACTIONS)])
        check_arguments(self, times, [("point", (1, 0, 1), WRONG_POINTS), ("fraction", (1, 3), WRONG_FRACTIONS)])
        check_arguments(self, between, [("point", (1, 0, 1), WRONG_POINTS), ("other", (0, 1, 2), WRONG_POINTS),
                                        ("fraction", (-4, 3), WRONG_FRACTIONS)])

    def test_sides_and_directions(self):
        check_arguments(self, excess, [("side", (1, 2, 3), WRONG_SIDES), ("point", (0, 1, 2), WRONG_POINTS)])
        check_arguments(self, is_earlier, [("direction", (1, 2), WRONG_DIRECTIONS), ("other", (0, 1), WRONG_DIRECTIONS)])


class Helpers(unittest.TestCase):
    def test_the_slow_point_is_reduced(self):
        for x in range(-6, 7):
            for y in range(-6, 7):
                for w in range(1, 7):
                    point = pt(Fraction(x, w), Fraction(y, w))
                    self.assertTrue(is_point(point))
                    self.assertEqual(spot(point), (Fraction(x, w), Fraction(y, w)))


if __name__ == "__main__":
    unittest.main()
