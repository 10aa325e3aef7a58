"""[12] to [15]: figures, the least times of ways, tacks, streams."""
import random
import unittest
from fractions import Fraction

from tests.helpers import (NOT_FIGURE, NOT_POINT, NOT_POLYGON, check_arguments, edges, in_hull, num, on_stretch, pair,
                           pt, random_figure, random_point, random_polygon, slow_hull, slow_time, spot, wrong_given,
                           wrong_index)
from tests.wrong import WRONG_PACES, WRONG_TACKS
from windfigure.errors import (InvalidFigure, InvalidPaces, InvalidPoint, InvalidPolygon, InvalidTacks, NoArea)
from windfigure.figures import (can_stay, figure_of, is_figure, made_by, may_sail, side_met, steered, tacks_of, time_of,
                                times_in_streams)
from windfigure.points import is_time
from windfigure.polygons import sides_of

KITE = ((-1, 0, 1), (1, -2, 1), (3, 0, 1), (1, 2, 1))
RUNNER = ((0, 0, 1), (2, 0, 1), (0, 2, 1))
# Nought lies on the middle of an edge.
BEAM = ((-1, 0, 1), (1, 0, 1), (0, 3, 1))
FIGURES = [KITE, RUNNER, BEAM]


class Kinds(unittest.TestCase):
    def test_figures(self):
        rng = random.Random(1)
        for value in FIGURES + [random_figure(rng) for _ in range(40)]:
            self.assertIs(is_figure(value), True)
            self.assertIs(is_figure(value=value), True)

    def test_no_figures(self):
        for value in NOT_FIGURE:
            self.assertIs(is_figure(value), False)


class Times(unittest.TestCase):
    def test_examples(self):
        self.assertEqual([time_of(KITE, (6, 0, 1)), time_of(KITE, (-2, 2, 1)), time_of(RUNNER, (3, 1, 1)),
                          time_of(RUNNER, (-1, 0, 1))], [(2, 1), (4, 1), (2, 1), None])

    def test_nought_and_the_rim_of_a_figure(self):
        for figure in FIGURES:
            self.assertEqual(time_of(figure, (0, 0, 1)), (0, 1))
        self.assertEqual(time_of(BEAM, (-5, 0, 1)), (5, 1))
        self.assertIsNone(time_of(BEAM, (-5, -1, 10 ** 20)))
        self.assertIsNone(time_of(RUNNER, (-1, 5, 1)))
        self.assertEqual(time_of(RUNNER, (0, 5, 1)), (5, 2))
        self.assertEqual(time_of(KITE, (3, 0, 1)), (1, 1))
        self.assertEqual(time_of(KITE, (1, 0, 10 ** 20)), (1, 3 * 10 ** 20))

    def test_random_ones(self):
        rng = random.Random(2)
        for _ in range(300):
            figure, way = random_figure(rng), random_point(rng)
            slow = slow_time(figure, way)
            told = time_of(figure, way)
            self.assertEqual(told, None if slow is None else pair(slow))
            x, y = spot(way)
            if told is None:
                self.assertFalse(in_hull((x / 10 ** 9, y / 10 ** 9), [spot(corner) for corner in figure]))
            elif told != (0, 1):
                self.assertTrue(is_time(told))
                self.check_least(figure, x, y, num(told))

    def check_least(self, figure, x, y, time):
        spots = [spot(corner) for corner in figure]
        self.assertTrue(in_hull((x / time, y / time), spots))
        self.assertTrue(in_hull((x / (time + 1), y / (time + 1)), spots))
        less = time * Fraction(10 ** 12 - 1, 10 ** 12)
        self.assertFalse(in_hull((x / less, y / less), spots))

    def test_a_way_along_a_corner_or_an_edge(self):
        rng = random.Random(3)
        for _ in range(60):
            figure = random_figure(rng)
            for k, corner in enumerate(figure):
                a, b = spot(corner), spot(figure[k - 1])
                middle = pt((a[0] + b[0]) / 2, (a[1] + b[1]) / 2)
                for point in (corner, middle):
                    told = time_of(figure, point)
                    self.assertLessEqual(num(told), 1)


class Made(unittest.TestCase):
    def test_hulls_with_nought(self):
        self.assertEqual(figure_of(((2, 0, 1), (0, 2, 1))), RUNNER)
        self.assertEqual(figure_of(((-1, 0, 1), (1, -2, 1), (3, 0, 1), (1, 2, 1))), KITE)
        self.assertEqual(figure_of(((1, 2, 1), (1, 0, 1), (3, 0, 1), (1, 2, 1), (-1, 0, 1), (1, -2, 1), (0, 0, 1))), KITE)
        self.assertEqual(figure_of(((1, 0, 1), (0, 3, 1), (-1, 0, 1))), BEAM)
        rng = random.Random(11)
        for _ in range(100):
            paces = tuple(random_point(rng) for _ in range(rng.randint(2, 6)))
            slow = slow_hull(list(paces) + [(0, 0, 1)])
            if len(slow) > 2:
                self.assertEqual(figure_of(paces), slow)
                self.assertIs(is_figure(figure_of(paces)), True)

    def test_no_area(self):
        for paces in ((), ((0, 0, 1),), ((1, 2, 3),), ((1, 2, 3), (2, 4, 3)), ((1, 2, 3), (-3, -6, 1), (0, 0, 1)),
                      ((1, 0, 1),) * 4):
            with self.assertRaises(NoArea) as caught:
                figure_of(paces)
            self.assertIs(type(caught.exception), NoArea)
        # Three points on one line that misses nought have an area with it.
        self.assertEqual(figure_of(((1, 1, 1), (1, 2, 1), (1, 3, 1))), ((0, 0, 1), (1, 1, 1), (1, 3, 1)))


def slow_sides_met(figure, way):
    """The sides above 0 by their gains, with the gain of each."""
    x, y = spot(way)
    return [(side, Fraction(side[0] * x + side[1] * y) / side[2]) for side in sides_of(figure) if side[2] > 0]


class SidesAndTacks(unittest.TestCase):
    def test_nought_and_endless_ones(self):
        for figure in FIGURES:
            self.assertIsNone(side_met(figure, (0, 0, 1)))
            self.assertEqual(tacks_of(figure, (0, 0, 1)), ())
        for figure, way in ((RUNNER, (-1, 0, 1)), (RUNNER, (3, -1, 10 ** 9)), (BEAM, (0, -1, 1)), (BEAM, (5, -1, 9))):
            self.assertIsNone(side_met(figure, way))
            self.assertIsNone(tacks_of(figure, way))

    def test_the_first_of_several_sides(self):
        # Each corner is on two sides: that before it and that behind it; the first corner is on the last side.
        self.assertEqual([side_met(KITE, corner) for corner in KITE],
                         [(-1, -1, 1), (-1, -1, 1), (1, -1, 3), (1, 1, 3)])
        self.assertEqual(side_met(KITE, (2, -1, 1)), (1, -1, 3))
        self.assertEqual(side_met(KITE, (-5, 1, 7)), (-1, 1, 1))
        # The sides through nought tell no time.
        self.assertEqual(side_met(RUNNER, (2, 0, 1)), (1, 1, 2))
        self.assertEqual([side_met(BEAM, corner) for corner in BEAM], [(-3, 1, 3), (3, 1, 3), (3, 1, 3)])

    def test_one_tack_and_two(self):
        self.assertEqual(tacks_of(KITE, (6, 0, 1)), (((3, 0, 1), (2, 1)),))
        self.assertEqual(tacks_of(KITE, (-2, 2, 1)), (((1, 2, 1), (1, 1)), ((-1, 0, 1), (3, 1))))
        self.assertEqual(tacks_of(KITE, (-2, -2, 1)), (((-1, 0, 1), (3, 1)), ((1, -2, 1), (1, 1))))
        self.assertEqual(tacks_of(RUNNER, (3, 1, 1)), (((2, 0, 1), (3, 2)), ((0, 2, 1), (1, 2))))
        self.assertEqual(tacks_of(RUNNER, (0, 1, 10 ** 20)), (((0, 2, 1), (1, 2 * 10 ** 20)),))
        self.assertEqual(tacks_of(BEAM, (-7, 0, 2)), (((-1, 0, 1), (7, 2)),))
        self.assertEqual(tacks_of(BEAM, (-1, 3, 1)), (((0, 3, 1), (1, 1)), ((-1, 0, 1), (1, 1))))

    def test_random_ones(self):
        rng = random.Random(12)
        many = {None: 0, 0: 0, 1: 0, 2: 0}
        for _ in range(500):
            figure = random_figure(rng)
            way = random_point(rng)
            if rng.random() < 0.4:
                (x, y), factor = spot(rng.choice(figure)), Fraction(rng.randint(1, 9), rng.randint(1, 9))
                way = pt(x * factor, y * factor)
            tacks, time = tacks_of(figure, way), time_of(figure, way)
            many[tacks and len(tacks) or (None if tacks is None else 0)] += 1
            if time is None:
                self.assertEqual((tacks, side_met(figure, way)), (None, None))
                continue
            self.check_tacks(figure, way, time, tacks)
            if time != (0, 1):
                self.check_side(figure, way, time)
        self.assertGreater(min(many.values()), 20, many)

    def check_tacks(self, figure, way, time, tacks):
        self.assertEqual(made_by(tacks), (way, time))
        self.assertIs(may_sail(figure, tacks), True)
        self.assertTrue(all(velocity in figure and velocity != (0, 0, 1) and is_time(length) and length != (0, 1)
                            for velocity, length in tacks))
        if time == (0, 1):
            self.assertEqual(tacks, ())
            return
        (x, y), hours = spot(way), num(time)
        velocity = pt(x / hours, y / hours)
        if velocity in figure:
            self.assertEqual(tacks, ((velocity, time),))
        else:
            rounds = [(spot(figure[k]), spot(figure[(k + 1) % len(figure)])) for k in range(len(figure))]
            edge = [(a, b) for a, b in rounds if on_stretch(spot(velocity), a, b)]
            self.assertEqual([(spot(tacks[0][0]), spot(tacks[1][0]))], edge)

    def check_side(self, figure, way, time):
        gains = slow_sides_met(figure, way)
        most = max(gain for side, gain in gains)
        self.assertEqual(most, num(time))
        self.assertEqual(side_met(figure, way), [side for side, gain in gains if gain == most][0])


class Tacks(unittest.TestCase):
    def test_what_they_make(self):
        self.assertEqual(made_by(()), ((0, 0, 1), (0, 1)))
        self.assertEqual(made_by((((3, 4, 6), (1, 2)),)), ((3, 4, 12), (1, 2)))
        self.assertEqual(made_by((((1, 0, 1), (1, 2)), ((-1, 0, 1), (1, 2)))), ((0, 0, 1), (1, 1)))
        self.assertEqual(made_by((((1, 2, 1), (1, 3)), ((3, -1, 2), (2, 3)), ((0, 0, 1), (5, 1)))), ((4, 1, 3), (6, 1)))
        rng = random.Random(13)
        for _ in range(100):
            tacks = tuple((random_point(rng), (rng.choice((1, 3, 5)), rng.choice((1, 2, 4))))
                          for _ in range(rng.randint(0, 15)))
            x = sum(spot(v)[0] * num(t) for v, t in tacks)
            y = sum(spot(v)[1] * num(t) for v, t in tacks)
            self.assertEqual(made_by(tacks), (pt(x, y), pair(sum(num(t) for v, t in tacks))))

    def test_whether_they_may_be_sailed(self):
        hour = (1, 1)
        self.assertIs(may_sail(KITE, ()), True)
        for corner in KITE:
            self.assertIs(may_sail(KITE, ((corner, (99, 1)),)), True)
        self.assertIs(may_sail(KITE, (((2, 1, 1), hour), ((0, 0, 1), hour), ((1, 0, 3), hour))), True)
        self.assertIs(may_sail(KITE, (((2, 1, 1), hour), ((21, 10, 10), hour))), False)
        self.assertIs(may_sail(KITE, (((21, 10, 10), (1, 10 ** 9)), ((2, 1, 1), hour))), False)
        self.assertIs(may_sail(RUNNER, (((-1, 0, 10 ** 9), hour),)), False)


def slow_times(figure, stream, way):
    """The stretch of the times in one stream: those t for which way / t, as t goes, is in the figure moved by it."""
    s, d = spot(stream), spot(way)
    moved = [(x + s[0], y + s[1]) for x, y in map(spot, figure)]
    if d == (0, 0):
        return (Fraction(0), None if in_hull((0, 0), moved) else Fraction(0))
    marks = [Fraction(0)]
    for a, b in edges(moved):
        u, v = b[0] - a[0], b[1] - a[1]
        det = d[0] * v - d[1] * u
        if det != 0:
            marks.append((a[0] * v - a[1] * u) / det)
        elif a[0] * d[1] == a[1] * d[0]:
            marks += [p[0] / d[0] if d[0] else p[1] / d[1] for p in (a, b)]
    marks = [mark for mark in marks if mark >= 0 and in_hull((mark * d[0], mark * d[1]), moved)]
    if not marks or max(marks) == 0:
        return None
    return (1 / max(marks), 1 / min(marks) if min(marks) else None)


def slow_times_in(figure, streams, way):
    low, high = Fraction(0), None
    for stream in streams:
        found = slow_times(figure, stream, way)
        if found is None:
            return None
        low = max(low, found[0])
        if found[1] is not None:
            high = found[1] if high is None else min(high, found[1])
    return None if high is not None and high < low else (pair(low), None if high is None else pair(high))


class Streams(unittest.TestCase):
    def test_ends(self):
        still, weak, edge, strong = ((0, 0, 1),), ((1, 0, 1),), ((-3, 0, 1),), ((4, 0, 1),)
        self.assertEqual(times_in_streams(KITE, still, (6, 0, 1)), ((2, 1), None))
        self.assertEqual(times_in_streams(KITE, weak, (6, 0, 1)), ((3, 2), None))
        self.assertEqual(times_in_streams(KITE, weak, (-6, 0, 1)), None)
        self.assertEqual(times_in_streams(KITE, edge, (-6, 0, 1)), ((3, 2), None))
        self.assertEqual(times_in_streams(KITE, edge, (6, 0, 1)), None)
        self.assertEqual(times_in_streams(KITE, strong, (6, 0, 1)), ((6, 7), (2, 1)))
        self.assertEqual(times_in_streams(KITE, strong, (-6, 0, 1)), None)
        self.assertEqual(times_in_streams(KITE, strong, (5, 2, 1)), ((1, 1), (1, 1)))
        self.assertEqual(times_in_streams(RUNNER, ((-2, 0, 1),), (-2, 0, 1)), ((1, 1), None))
        self.assertEqual(times_in_streams(RUNNER, ((0, 1, 1),), (0, 6, 1)), ((2, 1), (6, 1)))

    def test_the_way_nought(self):
        nought = (0, 0, 1)
        for figure in FIGURES:
            self.assertEqual(times_in_streams(figure, (nought,), nought), ((0, 1), None))
            self.assertEqual(times_in_streams(figure, ((9, 9, 1),), nought), ((0, 1), (0, 1)))
            self.assertEqual(times_in_streams(figure, (nought, (9, 9, 1)), nought), ((0, 1), (0, 1)))
        self.assertEqual(times_in_streams(RUNNER, ((-2, 0, 1), (0, -2, 1)), nought), ((0, 1), None))
        self.assertEqual(times_in_streams(RUNNER, ((-2, 0, 1), (1, -2, 1)), nought), ((0, 1), (0, 1)))

    def test_several_corners(self):
        self.assertEqual(times_in_streams(KITE, ((-1, 0, 1), (1, 0, 1)), (6, 0, 1)), ((3, 1), None))
        # Each of both lets some times, but not the same ones.
        self.assertEqual(times_in_streams(RUNNER, ((1, 0, 1),), (8, 0, 1)), ((8, 3), (8, 1)))
        self.assertEqual(times_in_streams(RUNNER, ((1, 0, 1), (9, 0, 1)), (8, 0, 1)), None)
        self.assertEqual(times_in_streams(RUNNER, ((1, 0, 1), (3, 0, 1)), (8, 0, 1)), ((8, 3), (8, 3)))
        self.assertEqual(times_in_streams(RUNNER, ((1, 0, 1), (2, 0, 1)), (8, 0, 1)), ((8, 3), (4, 1)))

    def test_random_ones(self):
        rng = random.Random(14)
        kinds = {"none": 0, "endless": 0, "both": 0, "nought": 0}
        for _ in range(700):
            figure, streams = random_figure(rng), random_polygon(rng, 4, rng.choice((1, 2, 4)))
            way = random_point(rng) if rng.random() < 0.9 else (0, 0, 1)
            found = times_in_streams(figure, streams, way)
            self.assertEqual(found, slow_times_in(figure, streams, way))
            kinds["none" if found is None else "endless" if found[1] is None else
                  "nought" if found == ((0, 1), (0, 1)) else "both"] += 1
        self.assertGreater(min(kinds.values()), 15, kinds)

    def test_with_a_stream(self):
        self.assertEqual(steered(KITE, (1, 0, 1), (2, 0, 1)), (1, 0, 1))
        self.assertIsNone(steered(KITE, (1, 0, 1), (5, 0, 1)))
        self.assertEqual(steered(KITE, (1, 0, 1), (4, 0, 1)), (3, 0, 1))
        self.assertEqual(steered(KITE, (1, 0, 1), (0, 0, 1)), (-1, 0, 1))
        self.assertEqual(steered(KITE, (1, 3, 2), (1, 1, 2)), (0, -1, 1))
        self.assertIsNone(steered(RUNNER, (1, 0, 1), (0, 0, 1)))
        rng = random.Random(15)
        for _ in range(200):
            figure, stream, velocity = random_figure(rng), random_point(rng, 2), random_point(rng)
            (x, y), (u, v) = spot(velocity), spot(stream)
            own = (x - u, y - v)
            held = in_hull(own, [spot(corner) for corner in figure])
            self.assertEqual(steered(figure, stream, velocity), pt(*own) if held else None)

    def test_staying(self):
        self.assertIs(can_stay(KITE, ((0, 0, 1),)), True)
        self.assertIs(can_stay(KITE, ((1, 0, 1),)), True)
        self.assertIs(can_stay(KITE, ((1, 0, 1), (2, 0, 1))), False)
        self.assertIs(can_stay(KITE, ((-3, 0, 1),)), True)
        self.assertIs(can_stay(KITE, ((-3, 0, 1), (-1, -2, 1), (1, 0, 1), (-1, 2, 1))), True)
        self.assertIs(can_stay(KITE, ((-3, 0, 1), (0, -2, 1), (1, 0, 1))), False)
        self.assertIs(can_stay(RUNNER, ((1, 0, 1),)), False)
        self.assertIs(can_stay(RUNNER, ((-1, 0, 1),)), True)
        rng = random.Random(16)
        for _ in range(200):
            figure, streams = random_figure(rng), random_polygon(rng, 4, 2)
            spots = [spot(corner) for corner in figure]
            slow = all(in_hull((-x, -y), spots) for x, y in map(spot, streams))
            self.assertIs(can_stay(figure, streams), slow)


FIGURE_ROW = ("figure", KITE, wrong_given(NOT_FIGURE, InvalidFigure))
WAY_ROW = ("way", (2, 1, 3), wrong_given(NOT_POINT, InvalidPoint))
STREAMS_ROW = ("streams", ((1, 0, 2),), wrong_given(NOT_POLYGON, InvalidPolygon))
TACKS_ROW = ("tacks", (((1, 0, 1), (1, 2)),), wrong_index(WRONG_TACKS, InvalidTacks))


class WrongArguments(unittest.TestCase):
    def test_time_side_and_tacks_of(self):
        for call in (time_of, side_met, tacks_of):
            check_arguments(self, call, [FIGURE_ROW, WAY_ROW])

    def test_figure_of(self):
        check_arguments(self, figure_of, [("paces", KITE, wrong_index(WRONG_PACES, InvalidPaces))])

    def test_tacks(self):
        check_arguments(self, made_by, [TACKS_ROW])
        check_arguments(self, may_sail, [FIGURE_ROW, TACKS_ROW])

    def test_streams(self):
        check_arguments(self, times_in_streams, [FIGURE_ROW, STREAMS_ROW, WAY_ROW])
        check_arguments(self, can_stay, [FIGURE_ROW, STREAMS_ROW])
        check_arguments(self, steered, [FIGURE_ROW, ("stream", (1, 0, 2), wrong_given(NOT_POINT, InvalidPoint)),
                                        ("velocity", (1, 1, 2), wrong_given(NOT_POINT, InvalidPoint))])


if __name__ == "__main__":
    unittest.main()
