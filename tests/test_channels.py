"""[33] to [35]: channels, the fewest runs, and how many of them any length of a way wants."""
import random
import unittest
from fractions import Fraction
from math import ceil, gcd, lcm

from tests.helpers import (NOT_FIGURE, NOT_POINT, check_arguments, check_raised, num, pair, pt, random_figure,
                           random_point, slow_time, spot, wrong_given, wrong_index)
from tests.wrong import BEAM, BOX, DIAMOND, KITE, NOT_CHANNEL, NOT_COUNT, NOT_FORM, WEDGE, WRONG_ROUTE
from windfigure.channels import (are_runs, cross_of, dear_share, fewest_runs, rise_and_fall, runs_between, runs_by_form,
                                 runs_form)
from windfigure.errors import (InvalidChannel, InvalidFigure, InvalidForm, InvalidNumber, InvalidPoint, InvalidRoute,
                               NotAlong, OutOfChannel, TooMany)
from windfigure.figures import tacks_of

TACKER = ((-1, 0, 1), (1, -2, 1), (1, 2, 1))
CHANNEL = (0, 1, 0, 4)
UPRIGHT = (1, 0, -1, 2)
SLANTED = (1, 2, -3, 5)
CHANNELS = [CHANNEL, UPRIGHT, SLANTED, (0, -3, -1, 1), (-2, 1, 0, 7), (5, -5, -2, 3)]
FIGURES = [TACKER, KITE, DIAMOND, BOX, WEDGE, BEAM]


def slow_cross(channel, point):
    x, y = spot(point)
    return channel[0] * x + channel[1] * y


def is_in(channel, point):
    return channel[2] <= slow_cross(channel, point) <= channel[3]


def point_with(channel, cross, far):
    """The point with this cross, and so far along the channel."""
    a, b = channel[:2]
    share = Fraction(cross) / (a * a + b * b)
    return pt(a * share - b * far, b * share + a * far)


def random_inside(rng, channel):
    """A point in the channel, at a wall now and then."""
    low, high = channel[2:]
    share = rng.choice((Fraction(0), Fraction(1), Fraction(1, 2), Fraction(rng.randint(0, 12), 12)))
    return point_with(channel, low + share * (high - low), Fraction(rng.randint(-20, 20), rng.choice((1, 2))))


def random_case(rng):
    figure = rng.choice(FIGURES) if rng.random() < 0.6 else random_figure(rng, 3)
    channel = rng.choice(CHANNELS)
    start, goal = random_inside(rng, channel), random_inside(rng, channel)
    if rng.random() < 0.05:
        goal = start
    return figure, channel, start, goal


def way_between(start, goal):
    (x, y), (u, v) = spot(start), spot(goal)
    return pt(u - x, v - y)


def gains_of(figure, channel, way):
    """How much the cross grows along each of the tacks; None if the time is endless."""
    tacks = tacks_of(figure, way)
    return None if tacks is None else [slow_cross(channel, velocity) * num(time) for velocity, time in tacks]


def slow_fewest(figure, channel, start, goal):
    """The fewest runs, found among all rows of runs over a grid that has the walls, the ends and both tacks.

    "fine" where the grid would be too fine for that.
    """
    gains = gains_of(figure, channel, way_between(start, goal))
    if gains is None:
        return None
    low, high = channel[2] - slow_cross(channel, start), channel[3] - slow_cross(channel, start)
    if len(gains) < 2 or 0 in gains:
        return len(gains)
    steps = [step for step in gains + [low, high] if step != 0]
    bottom = lcm(*[step.denominator for step in steps])
    unit = gcd(*[int(step * bottom) for step in steps])
    gains = [int(gain * bottom) // unit for gain in gains]
    if sum(map(abs, gains)) > 60:
        return "fine"
    return grid_rounds(gains, int(low * bottom) // unit, int(high * bottom) // unit)


def grid_rounds(gains, low, high):
    """Rounds of runs by whole steps along the one or the other tack, from all places that a round comes to."""
    places, rounds = {(0, 0, 0), (0, 0, 1)}, 0
    signs = [1 if gain > 0 else -1 for gain in gains]
    while not any((one, two) == (abs(gains[0]), abs(gains[1])) for one, two, last in places):
        rounds += 1
        later = set()
        for one, two, last in places:
            used = [one, two]
            turn = 1 - last
            while used[turn] < abs(gains[turn]):
                used[turn] += 1
                if not low <= used[0] * signs[0] + used[1] * signs[1] <= high:
                    break
                later.add((used[0], used[1], turn))
        places = later
    return rounds


class Crosses(unittest.TestCase):
    def test_normals_along_the_axes_and_any(self):
        self.assertEqual(cross_of(CHANNEL, (3, 8, 2)), (4, 1))
        self.assertEqual(cross_of(UPRIGHT, (3, 8, 2)), (3, 2))
        self.assertEqual(cross_of(SLANTED, (3, 8, 2)), (19, 2))
        self.assertEqual(cross_of((0, -3, -1, 1), (5, 1, 6)), (-1, 2))
        self.assertEqual(cross_of(SLANTED, (0, 0, 1)), (0, 1))
        rng = random.Random(1)
        for _ in range(100):
            channel, point = rng.choice(CHANNELS), random_point(rng)
            self.assertEqual(cross_of(channel, point), pair(slow_cross(channel, point)))

    def test_rise_and_fall(self):
        zero = (0, 1)
        self.assertEqual(rise_and_fall(TACKER, CHANNEL, (6, 0, 1)), ((6, 1), (6, 1)))
        self.assertEqual(rise_and_fall(TACKER, CHANNEL, (0, 0, 1)), (zero, zero))
        self.assertEqual(rise_and_fall(TACKER, CHANNEL, (-3, 0, 1)), (zero, zero))
        self.assertEqual(rise_and_fall(TACKER, CHANNEL, (1, 2, 2)), ((1, 1), zero))
        self.assertEqual(rise_and_fall(TACKER, CHANNEL, (2, -4, 1)), (zero, (4, 1)))
        self.assertEqual(rise_and_fall(TACKER, CHANNEL, (0, 2, 1)), ((2, 1), zero))
        self.assertEqual(rise_and_fall(TACKER, UPRIGHT, (0, 2, 1)), ((1, 1), (1, 1)))
        # Both corners rise.
        self.assertEqual(rise_and_fall(DIAMOND, (1, 1, 0, 1), (2, 3, 1)), ((5, 1), zero))
        self.assertEqual(rise_and_fall(DIAMOND, (1, 1, 0, 1), (-2, -3, 1)), (zero, (5, 1)))
        self.assertIsNone(rise_and_fall(WEDGE, CHANNEL, (-1, 0, 1)))
        self.assertIsNone(rise_and_fall(BEAM, CHANNEL, (5, -1, 10 ** 9)))

    def test_random_ones(self):
        rng = random.Random(2)
        none = 0
        for _ in range(200):
            figure, channel, start, goal = random_case(rng)
            way = way_between(start, goal)
            gains = gains_of(figure, channel, way)
            if gains is None:
                none += 1
                self.assertIsNone(rise_and_fall(figure, channel, way))
                continue
            rise, fall = sum(gain for gain in gains if gain > 0), -sum(gain for gain in gains if gain < 0)
            self.assertEqual(rise_and_fall(figure, channel, way), (pair(rise), pair(fall)))
        self.assertTrue(20 < none < 150)


class Fewest(unittest.TestCase):
    def test_starts_at_walls_and_between(self):
        self.assertEqual(fewest_runs(TACKER, CHANNEL, (0, 0, 1), (6, 0, 1)), 4)
        self.assertEqual(fewest_runs(TACKER, CHANNEL, (0, 1, 1), (6, 1, 1)), 4)
        self.assertEqual(fewest_runs(TACKER, CHANNEL, (0, 4, 1), (6, 4, 1)), 4)
        self.assertEqual(fewest_runs(TACKER, CHANNEL, (0, 1, 1), (4, 1, 1)), 3)
        self.assertEqual(fewest_runs(TACKER, CHANNEL, (0, 0, 1), (4, 0, 1)), 2)
        self.assertEqual(fewest_runs(TACKER, CHANNEL, (0, 4, 1), (4, 4, 1)), 2)

    def test_ways_without_two_tacks(self):
        self.assertEqual(fewest_runs(TACKER, CHANNEL, (0, 0, 1), (1, 2, 1)), 1)
        self.assertEqual(fewest_runs(TACKER, CHANNEL, (0, 1, 1), (-9, 1, 1)), 1)
        self.assertEqual(fewest_runs(TACKER, CHANNEL, (5, 1, 2), (5, 1, 2)), 0)
        self.assertIsNone(fewest_runs(WEDGE, CHANNEL, (1, 0, 1), (0, 0, 1)))
        # One corner lies along the channel, or both rise: two runs, however far it is.
        self.assertEqual(fewest_runs(TACKER, CHANNEL, (0, 0, 1), (-30, 3, 1)), 2)
        self.assertEqual(fewest_runs(DIAMOND, CHANNEL, (0, 0, 1), (99, 4, 1)), 2)
        self.assertEqual(fewest_runs(BOX, (1, 3, 0, 4), (0, 0, 1), (1, 1, 2)), 1)
        self.assertEqual(fewest_runs(DIAMOND, (1, 1, 0, 9), (0, 0, 1), (4, 5, 1)), 2)

    def test_each_form_is_the_least_once(self):
        # The growing one first and last: the fall is short, and the start is low.
        self.assertEqual(self.four(TACKER, (0, 2, 1), (5, 4, 1)), [3, 5, 4, 4])
        seen = {}
        for y in range(0, 17):
            for v in range(0, 17):
                for x in range(1, 24):
                    four = self.four(TACKER, pt(0, Fraction(y, 4)), pt(Fraction(x, 2), Fraction(v, 4)))
                    if four is not None:
                        told = fewest_runs(TACKER, CHANNEL, pt(0, Fraction(y, 4)), pt(Fraction(x, 2), Fraction(v, 4)))
                        self.assertEqual(told, min(four))
                        if four.count(told) == 1:
                            seen[four.index(told)] = seen.get(four.index(told), 0) + 1
        self.assertEqual(set(seen), {0, 1, 2, 3})
        self.assertGreater(min(seen.values()), 10, seen)

    def four(self, figure, start, goal):
        """The four numbers of the document; None if not one corner rises and one falls."""
        gains = gains_of(figure, CHANNEL, way_between(start, goal))
        if len(gains) < 2 or gains[0] * gains[1] >= 0:
            return None
        rise, fall, width, low = max(gains), -min(gains), 4, spot(start)[1]
        return [2 * ceil(fall / width) + 1, 2 * ceil(rise / width) + 1, 2 * ceil((rise + low) / width),
                2 * ceil((fall - low) / width) + 2]

    def test_odd_ones_and_even_ones(self):
        self.assertEqual(fewest_runs(TACKER, CHANNEL, (0, 2, 1), (4, 2, 1)), 3)
        self.assertEqual(fewest_runs(TACKER, CHANNEL, (0, 2, 1), (8, 2, 1)), 5)
        self.assertEqual(fewest_runs(TACKER, CHANNEL, (0, 2, 1), (2, 2, 1)), 2)
        told = [fewest_runs(TACKER, CHANNEL, (0, 1, 1), (k, 1, 1)) for k in range(1, 13)]
        self.assertEqual(told, [2, 2, 2, 3, 4, 4, 4, 5, 6, 6, 6, 7])

    def test_random_ones(self):
        rng = random.Random(3)
        seen = {}
        for _ in range(600):
            figure, channel, start, goal = random_case(rng)
            slow = slow_fewest(figure, channel, start, goal)
            if slow != "fine":
                self.assertEqual(fewest_runs(figure, channel, start, goal), slow)
            seen[slow] = seen.get(slow, 0) + 1
        self.assertGreaterEqual(set(seen), {None, 0, 1, 2, 3, 4, 5, 6})
        self.assertLess(seen["fine"], 300, seen)


class Rows(unittest.TestCase):
    def test_they_are_runs_in_the_channel_as_many_as_told(self):
        rng = random.Random(4)
        seen, longest = {}, 0
        for _ in range(400):
            figure, channel, start, goal = random_case(rng)
            many = fewest_runs(figure, channel, start, goal)
            if many is not None and many > 39:
                with self.assertRaises(TooMany) as caught:
                    runs_between(figure, channel, start, goal)
                self.assertEqual(caught.exception.given, many)
                seen["dear"] = seen.get("dear", 0) + 1
                continue
            route = runs_between(figure, channel, start, goal)
            if many is None:
                self.assertIsNone(route)
            else:
                self.assertEqual((len(route), route[0], route[-1]), (many + 1, start, goal))
                self.check_runs(figure, channel, route)
                longest = max(longest, many)
            seen[many] = seen.get(many, 0) + 1
        self.assertGreaterEqual(set(seen), {None, 0, 1, 2, 3, 4, 5, 6, 7, 8})
        self.assertGreater(longest, 20)

    def check_runs(self, figure, channel, route):
        self.assertIsInstance(route, tuple)
        self.assertIs(are_runs(figure, channel, route), True)
        self.assertTrue(slow_are_runs(figure, channel, route))

    def test_39_and_more(self):
        self.assertEqual(fewest_runs(TACKER, CHANNEL, (0, 2, 1), (76, 2, 1)), 39)
        route = runs_between(TACKER, CHANNEL, (0, 2, 1), (76, 2, 1))
        self.assertEqual(len(route), 40)
        self.check_runs(TACKER, CHANNEL, route)
        for length, many in ((77, 40), (78, 40), (80, 41), (10 ** 30, 5 * 10 ** 29 + 1)):
            self.assertEqual(fewest_runs(TACKER, CHANNEL, (0, 2, 1), (length, 2, 1)), many)
            with self.assertRaises(TooMany) as caught:
                runs_between(TACKER, CHANNEL, (0, 2, 1), (length, 2, 1))
            self.assertEqual(caught.exception.given, many)

    def test_examples(self):
        self.assertEqual(runs_between(TACKER, CHANNEL, (0, 0, 1), (0, 0, 1)), ((0, 0, 1),))
        self.assertEqual(runs_between(TACKER, CHANNEL, (0, 0, 1), (1, 2, 1)), ((0, 0, 1), (1, 2, 1)))
        self.assertIsNone(runs_between(WEDGE, CHANNEL, (1, 0, 1), (0, 0, 1)))
        # From a wall only one corner leads into the channel.
        self.assertEqual(runs_between(TACKER, CHANNEL, (0, 0, 1), (4, 0, 1)), ((0, 0, 1), (2, 4, 1), (4, 0, 1)))
        self.assertEqual(runs_between(TACKER, CHANNEL, (0, 4, 1), (4, 4, 1)), ((0, 4, 1), (2, 0, 1), (4, 4, 1)))


def slow_are_runs(figure, channel, route):
    """By the words of the document: places in the channel, legs along corners, and no longer than the whole way."""
    if not all(is_in(channel, point) for point in route):
        return False
    total = Fraction(0)
    for here, there in zip(route, route[1:]):
        x, y = spot(way_between(here, there))
        along = [max(x / u if u else 0, y / v if v else 0) for u, v in map(spot, figure)
                 if (u, v) != (0, 0) and x * v == y * u and x * u + y * v > 0]
        if not along:
            return False
        total += along[0]
    return total == slow_time(figure, way_between(route[0], route[-1]))


class WhatRunsAre(unittest.TestCase):
    def test_what_are_runs(self):
        self.assertIs(are_runs(TACKER, CHANNEL, ((0, 1, 1), (3, 8, 2), (7, 0, 2), (5, 3, 1), (6, 1, 1))), True)
        self.assertIs(are_runs(TACKER, CHANNEL, ((0, 1, 1), (1, 3, 1), (2, 1, 1))), True)
        self.assertIs(are_runs(TACKER, CHANNEL, ((0, 0, 1), (1, 2, 1), (2, 4, 1))), True)
        self.assertIs(are_runs(TACKER, CHANNEL, ((0, 0, 1), (1, 2, 1), (3, 4, 2))), False)
        self.assertIs(are_runs(TACKER, CHANNEL, ((9, 1, 1), (0, 1, 1))), True)
        self.assertIs(are_runs(DIAMOND, CHANNEL, ((0, 1, 1), (5, 1, 1), (5, 3, 1), (6, 3, 1))), True)
        for point in ((0, 0, 1), (7, 4, 1), (5, 1, 3)):
            self.assertIs(are_runs(TACKER, CHANNEL, (point,)), True)

    def test_what_are_none(self):
        # Out of the channel, at one place or at the only one.
        self.assertIs(are_runs(TACKER, CHANNEL, ((0, 1, 1), (3, 7, 1), (6, 1, 1))), False)
        self.assertIs(are_runs(TACKER, CHANNEL, ((0, -1, 1),)), False)
        self.assertIs(are_runs(TACKER, CHANNEL, ((0, 5, 1),)), False)
        self.assertIs(are_runs(TACKER, CHANNEL, ((0, -1, 1), (1, 1, 1))), False)
        self.assertIs(are_runs(TACKER, CHANNEL, ((0, 3, 1), (1, 5, 1))), False)
        # A point twice.
        self.assertIs(are_runs(TACKER, CHANNEL, ((0, 1, 1), (0, 1, 1))), False)
        self.assertIs(are_runs(TACKER, CHANNEL, ((0, 1, 1), (1, 3, 1), (1, 3, 1), (2, 1, 1))), False)
        # Along no corner, though as soon as two runs are.
        self.assertIs(are_runs(TACKER, CHANNEL, ((0, 1, 1), (2, 1, 1))), False)
        self.assertIs(are_runs(DIAMOND, CHANNEL, ((0, 1, 1), (1, 2, 1))), False)
        # Along another corner, so that the whole takes longer.
        self.assertIs(are_runs(TACKER, CHANNEL, ((0, 1, 1), (1, 3, 1), (2, 1, 1), (1, 1, 1))), False)
        self.assertIs(are_runs(DIAMOND, CHANNEL, ((0, 1, 1), (1, 1, 1), (1, 2, 1), (0, 2, 1))), False)
        # A way round, and one that is endless.
        self.assertIs(are_runs(DIAMOND, CHANNEL, ((0, 1, 1), (1, 1, 1), (1, 2, 1), (0, 2, 1), (0, 1, 1))), False)
        self.assertIs(are_runs(DIAMOND, CHANNEL, ((0, 1, 1), (1, 1, 1), (0, 1, 1))), False)
        self.assertIs(are_runs(WEDGE, CHANNEL, ((0, 1, 1), (-1, 1, 1))), False)
        self.assertIs(are_runs(WEDGE, CHANNEL, ((2, 2, 1), (1, 1, 1))), False)
        # Nought is a corner of the wedge, but no run is along it.
        self.assertIs(are_runs(WEDGE, CHANNEL, ((2, 2, 1), (2, 2, 1))), False)

    def test_random_ones(self):
        rng = random.Random(5)
        seen = {True: 0, False: 0}
        for _ in range(400):
            figure, channel = rng.choice(FIGURES), rng.choice(CHANNELS)
            route = [random_inside(rng, channel)]
            for _ in range(rng.randint(0, 4)):
                (x, y), (u, v) = spot(route[-1]), spot(rng.choice(figure))
                share = Fraction(rng.randint(1, 8), 8 * rng.choice((1, 2)))
                route.append(pt(x + share * u, y + share * v))
            if rng.random() < 0.1:
                route.append(random_inside(rng, channel))
            slow = slow_are_runs(figure, channel, tuple(route))
            self.assertIs(are_runs(figure, channel, tuple(route)), slow)
            seen[slow] += 1
        self.assertGreater(min(seen.values()), 60, seen)


class Forms(unittest.TestCase):
    def test_examples(self):
        form = runs_form(TACKER, CHANNEL, (0, 1, 1), (1, 0, 1))
        self.assertEqual(form, ((1, 4), (1, 4)))
        self.assertEqual([runs_by_form(form, 4), runs_by_form(form, 6), dear_share(form)], [3, 4, (1, 4)])
        self.assertEqual(runs_by_form(((1, 4), (0, 1)), 4), 2)
        self.assertEqual(runs_form(TACKER, CHANNEL, (5, 4, 1), (6, 0, 1)), ((3, 2), (1, 1)))
        self.assertEqual(runs_form(TACKER, CHANNEL, (-5, 0, 1), (6, 0, 7)), ((3, 14), (0, 1)))
        self.assertEqual(runs_form(TACKER, (1, 2, -3, 5), (1, 0, 1), (2, -1, 1)),
                         self.slow_form(TACKER, (1, 2, -3, 5), (1, 0, 1), (2, -1, 1)))

    def test_ways_without_a_form(self):
        self.assertIsNone(runs_form(TACKER, CHANNEL, (0, 1, 1), (0, 0, 1)))
        self.assertIsNone(runs_form(TACKER, CHANNEL, (0, 1, 1), (-3, 0, 1)))
        self.assertIsNone(runs_form(KITE, CHANNEL, (0, 1, 1), (9, 0, 5)))
        self.assertIsNone(runs_form(WEDGE, CHANNEL, (0, 1, 1), (-1, 0, 1)))
        self.assertIsNone(runs_form(BEAM, UPRIGHT, (0, 1, 1), (0, -1, 1)))

    def slow_form(self, figure, channel, start, way):
        gains, width = gains_of(figure, channel, way), channel[3] - channel[2]
        if gains is None or len(gains) < 2:
            return None
        return (pair(max(gains) / width), pair((slow_cross(channel, start) - channel[2]) / width))

    def random_form_case(self, rng):
        figure, channel, start, _ = random_case(rng)
        a, b = channel[:2]
        far = Fraction(rng.randint(-12, 12), rng.choice((1, 2, 3, 5)))
        return figure, channel, start, pt(-b * far, a * far)

    def test_random_forms(self):
        rng = random.Random(6)
        none = 0
        for _ in range(200):
            figure, channel, start, way = self.random_form_case(rng)
            found = runs_form(figure, channel, start, way)
            self.assertEqual(found, self.slow_form(figure, channel, start, way))
            none += found is None
        self.assertTrue(20 < none < 150, none)

    def test_lengths_by_their_form(self):
        rng = random.Random(7)
        told = 0
        for _ in range(200):
            figure, channel, start, way = self.random_form_case(rng)
            form = runs_form(figure, channel, start, way)
            if form is None:
                continue
            told += 1
            (x, y), (u, v) = spot(start), spot(way)
            for many in (1, 2, 3, rng.randint(4, 40), 10 ** 12 + 7):
                goal = pt(x + many * u, y + many * v)
                self.assertEqual(runs_by_form(form, many), fewest_runs(figure, channel, start, goal))
        self.assertGreater(told, 50)

    def test_turns_walls_and_great_lengths(self):
        rng = random.Random(8)
        for _ in range(100):
            share = (rng.randint(1, 30), rng.randint(1, 12))
            share = pair(Fraction(*share))
            part = pair(Fraction(rng.randint(0, 12), 12))
            for many in (1, 2, rng.randint(3, 99), 10 ** 30 + rng.randint(0, 99)):
                wall = 2 * ceil(many * num(share))
                told = runs_by_form((share, part), many)
                self.assertEqual([runs_by_form((share, end), many) for end in ((0, 1), (1, 1))], [wall, wall])
                self.assertIn(told, (wall, wall + 1))
                self.assertEqual(told, runs_by_form((share, part), many + share[1]) - 2 * share[0])
                left = ceil(many * num(share)) - many * num(share)
                self.assertEqual(told == wall + 1, left < min(num(part), 1 - num(part)))

    def test_the_dear_share_over_a_turn(self):
        self.assertEqual(dear_share(((1, 1), (1, 2))), (1, 1))
        self.assertEqual(dear_share(((7, 1), (0, 1))), (0, 1))
        self.assertEqual(dear_share(((7, 1), (1, 1))), (0, 1))
        self.assertEqual(dear_share(((1, 2), (1, 2))), (1, 2))
        self.assertEqual(dear_share(((1, 2), (1, 3))), (1, 2))
        self.assertEqual(dear_share(((1, 3), (1, 2))), (2, 3))
        self.assertEqual(dear_share(((1, 10 ** 20), (1, 4))), (1, 4))
        rng = random.Random(9)
        for _ in range(150):
            share, part = pair(Fraction(rng.randint(1, 40), rng.randint(1, 20))), pair(Fraction(rng.randint(0, 20), 20))
            first = rng.randint(1, 99)
            row = [runs_by_form((share, part), k) - runs_by_form((share, (0, 1)), k)
                   for k in range(first, first + share[1])]
            self.assertEqual(dear_share((share, part)), pair(Fraction(sum(row), share[1])))


FIGURE_ROW = ("figure", TACKER, wrong_given(NOT_FIGURE, InvalidFigure))
CHANNEL_ROW = ("channel", CHANNEL, wrong_given(NOT_CHANNEL, InvalidChannel))
OUTSIDE = [(0, -1, 10 ** 20), (0, 4 * 10 ** 20 + 1, 10 ** 20), (3, -7, 1), (3, 9, 2)]
START_ROW = ("start", (0, 1, 1), wrong_given(NOT_POINT, InvalidPoint) + wrong_given(OUTSIDE, OutOfChannel))
GOAL_ROW = ("goal", (6, 1, 1), START_ROW[2])
FORM_ROW = ("form", ((1, 4), (1, 4)), wrong_given(NOT_FORM, InvalidForm))


class WrongArguments(unittest.TestCase):
    def test_any_points(self):
        check_arguments(self, cross_of, [CHANNEL_ROW, ("point", (9, 9, 1), wrong_given(NOT_POINT, InvalidPoint))])
        check_arguments(self, rise_and_fall, [FIGURE_ROW, CHANNEL_ROW,
                                              ("way", (9, 9, 1), wrong_given(NOT_POINT, InvalidPoint))])

    def test_ends_in_the_channel(self):
        for call in (fewest_runs, runs_between):
            check_arguments(self, call, [FIGURE_ROW, CHANNEL_ROW, START_ROW, GOAL_ROW])

    def test_too_many_comes_last(self):
        far = (10 ** 9, 1, 1)
        with self.assertRaises(TooMany):
            runs_between(TACKER, CHANNEL, (0, 1, 1), far)
        check_raised(self, InvalidPoint, "given", None, runs_between, TACKER, CHANNEL, None, far)
        check_raised(self, InvalidFigure, "given", None, runs_between, None, CHANNEL, (0, 1, 1), far)

    def test_routes(self):
        check_arguments(self, are_runs, [FIGURE_ROW, CHANNEL_ROW, (
            "route", ((0, 1, 1), (1, 3, 1)), wrong_index(WRONG_ROUTE, InvalidRoute))])

    def test_forms(self):
        across = [(1, 1, 1), (0, 1, 10 ** 20), (5, -1, 3)]
        check_arguments(self, runs_form, [FIGURE_ROW, CHANNEL_ROW, START_ROW, (
            "way", (1, 0, 1), wrong_given(NOT_POINT, InvalidPoint) + wrong_given(across, NotAlong))])
        check_arguments(self, runs_by_form, [FORM_ROW, ("many", 5, wrong_given(NOT_COUNT, InvalidNumber))])
        check_arguments(self, dear_share, [FORM_ROW])

    def test_channels_that_are_right(self):
        for channel in CHANNELS + [(1, 2, -4, 6), (2, 1, -4, 6), (2, 4, -1, 6), (2, 4, -2, 5), (0, 2, 0, 1),
                                   (0, 1, -10 ** 30, 10 ** 30), (-3, 0, -9, -8)]:
            self.assertEqual(cross_of(channel, (0, 0, 1)), (0, 1))


if __name__ == "__main__":
    unittest.main()
