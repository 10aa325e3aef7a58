"""[36] to [38]: shores that are held off together, in all winds, and headlands that are weathered."""
import random
import unittest
from fractions import Fraction
from itertools import product

from tests.helpers import (NOT_DIRECTION, NOT_FIGURE, NOT_POINT, NOT_POLYGON, NOT_SIDE, check_arguments, in_hull, num,
                           pt, random_figure, random_point, random_polygon, slow_common, slow_hull, slow_time, spot, wrong_given,
                           wrong_index)
from tests.slow import SOME_DIRECTIONS, reduced, told, turned_figure
from tests.wrong import BEAM, BOX, DIAMOND, KITE, WEDGE, WRONG_SHORES, not_weights
from windfigure.errors import (InvalidFigure, InvalidPoint, InvalidPolygon, InvalidShores, InvalidSide, InvalidWeights,
                               InvalidWind, OffWater)
from windfigure.points import is_point, is_side
from windfigure.shores import (barring_weights, bars, embayed_by, held_with, holds_in_wind, holds_off, weather_point,
                               weather_time, weathering_runs, weights_of_two, winds_off)

FIGURES = [KITE, DIAMOND, BOX, WEDGE, BEAM]
DRIFTING = ((1, -1, 1), (3, -1, 1), (3, 1, 1), (1, 1, 1))
EAST, NORTH, WEST, SOUTH = (1, 0, 9), (0, 1, 9), (-1, 0, 9), (0, -1, 9)


def random_shore(rng, size=4):
    while True:
        shore = (rng.randint(-size, size), rng.randint(-size, size), rng.randint(-9, 9))
        if is_side(shore):
            return shore


def random_shores(rng, most=8):
    return tuple(random_shore(rng, 3) for _ in range(rng.randint(1, most)))


def random_velocities(rng):
    """A point, a stretch or an area, with or without nought."""
    kind = rng.random()
    if kind < 0.2:
        return (random_point(rng, 2),)
    if kind < 0.5:
        # Nearly through nought: two shores may bar it, neither of which does so alone.
        (x, y), (u, v) = spot(random_point(rng, 3)), spot(random_point(rng, 1))
        return slow_hull([pt(x + u / 9, y + v / 9), pt(u / 9 - x, v / 9 - y), pt(u, v)][:rng.choice((2, 3))])
    polygon = random_polygon(rng, rng.choice((2, 3, 5)), 2)
    if kind < 0.8:
        x, y = rng.choice(((2, 1), (-1, 3), (1, -2), (3, 3)))
        return tuple(pt(u + x, v + y) for u, v in map(spot, polygon))
    return polygon


def slow_holding(velocities, shores):
    """The velocities that hold off all shores: the common part with great polygons; None for none."""
    part = velocities
    for a, b, _ in shores:
        far = 10 ** 6
        half = [(-b * far, a * far), (b * far, -a * far), (b * far - a * far, -a * far - b * far),
                (-b * far - a * far, a * far - b * far)]
        least = min(range(4), key=lambda k: half[k])
        part = slow_common(part, tuple(pt(*p) for p in half[least:] + half[:least]))
        if part is None:
            return None
    return part


def gains_of(shore, velocities):
    return [shore[0] * x + shore[1] * y for x, y in map(spot, velocities)]


class HoldingOff(unittest.TestCase):
    def test_one_shore(self):
        for shore in (EAST, NORTH, WEST, SOUTH, (5, -3, 0)):
            for velocities in FIGURES + [((0, 0, 1),)]:
                self.assertIs(holds_off(velocities, (shore,)), True)
                self.assertIsNone(embayed_by(velocities, (shore,)))
                self.assertIsNone(barring_weights(velocities, (shore,)))
        self.assertIs(holds_off(DRIFTING, (EAST,)), False)
        self.assertIs(holds_off(DRIFTING, (WEST,)), True)
        self.assertIs(holds_off(DRIFTING, ((1, 1, 9),)), True)
        self.assertIs(holds_off(DRIFTING, ((2, 1, 9),)), False)
        self.assertIsNone(held_with(DRIFTING, (EAST,)))

    def test_a_point_and_a_stretch(self):
        point, stretch = ((1, 2, 1),), ((-1, 1, 1), (2, 1, 1))
        self.assertEqual(held_with(point, ((-2, 1, 0), SOUTH, WEST)), (1, 2, 1))
        self.assertIs(holds_off(point, ((-2, 1, 0), SOUTH, WEST, NORTH)), False)
        self.assertEqual(embayed_by(point, ((-2, 1, 0), SOUTH, WEST, NORTH)), (0, 3))
        self.assertEqual(held_with(stretch, (EAST, WEST)), (0, 1, 1))
        self.assertEqual(held_with(stretch, (SOUTH, (1, 1, 3))), (-1, 1, 1))
        self.assertEqual(embayed_by(stretch, ((1, 1, 0), (-1, 1, 0))), (0, 1))
        self.assertEqual(embayed_by(stretch, (EAST, SOUTH, NORTH)), (0, 2))

    def test_one_velocity_for_all(self):
        # Nought holds off everything.
        self.assertEqual(held_with(WEDGE, (EAST, NORTH, WEST, SOUTH)), (0, 0, 1))
        self.assertEqual(held_with(((0, 0, 1),), (EAST, NORTH, WEST, SOUTH, (1, 1, 1), (-1, 1, 1))), (0, 0, 1))
        # At the very rim: one corner alone. How far the shores are tells nothing.
        self.assertIsNone(held_with(DRIFTING, ((1, 1, 9), (0, -1, -4))))
        self.assertEqual(held_with(DRIFTING, ((1, 1, 9), (-1, -1, 9))), (1, -1, 1))
        self.assertEqual(held_with(DRIFTING, ((1, 1, 9), (0, 1, 9), (-1, 0, 7))), (1, -1, 1))

    def test_the_least_pair(self):
        self.assertEqual(embayed_by(DRIFTING, (EAST,)), (0, 0))
        self.assertEqual(embayed_by(DRIFTING, ((1, 1, 9), (1, -1, 9))), (0, 1))
        self.assertEqual(embayed_by(DRIFTING, (WEST, EAST)), (0, 1))
        self.assertEqual(embayed_by(DRIFTING, (WEST, (1, 1, 9), SOUTH, (1, -1, 9))), (1, 2))
        self.assertEqual(embayed_by(DRIFTING, (WEST, (1, 1, 9), WEST, WEST, WEST, WEST, WEST, (1, -1, 9))), (1, 7))
        self.assertEqual(embayed_by(DRIFTING, (WEST, WEST, EAST, (1, 1, 9))), (0, 2))
        self.assertEqual(embayed_by(((1, 0, 1),), (NORTH, EAST)), (0, 1))

    def test_random_ones(self):
        rng = random.Random(1)
        seen = {True: 0, False: 0}
        pairs = {"self": 0, "two": 0}
        for _ in range(200):
            velocities, shores = random_velocities(rng), random_shores(rng)
            held = slow_holding(velocities, shores) is not None
            seen[held] += 1
            self.assertIs(holds_off(velocities, shores), held)
            velocity = held_with(velocities, shores)
            if held:
                self.assertTrue(is_point(velocity) and in_hull(spot(velocity), list(map(spot, velocities))))
                self.assertTrue(all(gains_of(shore, (velocity,))[0] <= 0 for shore in shores))
                self.assertIsNone(embayed_by(velocities, shores))
                continue
            self.assertIsNone(velocity)
            every = [(i, j) for i in range(len(shores)) for j in range(i, len(shores))]
            slow = [pair for pair in every if slow_holding(velocities, [shores[k] for k in pair]) is None][0]
            self.assertEqual(embayed_by(velocities, shores), slow)
            pairs["self" if slow[0] == slow[1] else "two"] += 1
        self.assertGreater(min(list(seen.values()) + list(pairs.values())), 20, (seen, pairs))


class Weights(unittest.TestCase):
    def test_what_bars_and_what_does_not(self):
        shores = ((1, 1, 9), (1, -1, 9))
        self.assertIs(bars(DRIFTING, shores, (1, 1)), True)
        self.assertIs(bars(DRIFTING, shores, (1, 0)), False)
        self.assertIs(bars(DRIFTING, shores, (0, 1)), False)
        self.assertIs(bars(DRIFTING, shores, (0, 0)), False)
        self.assertIs(bars(DRIFTING, shores, (10 ** 30, 1)), True)
        self.assertIs(bars(DRIFTING, (EAST,), (1,)), True)
        self.assertIs(bars(DRIFTING, (EAST,), (0,)), False)
        # A corner with the sum 0 is held off.
        self.assertIs(bars(DRIFTING, ((1, 1, 9),), (10 ** 9,)), False)
        self.assertIs(bars(DIAMOND, shores, (1, 1)), False)
        self.assertIs(bars(DRIFTING, (EAST, WEST), (2, 1)), True)
        self.assertIs(bars(DRIFTING, (EAST, WEST), (1, 1)), False)
        self.assertIs(bars(DRIFTING, (EAST, WEST), (1, 2)), False)
        self.assertIs(bars(DRIFTING, (EAST, WEST, NORTH), (3, 1, 1)), True)
        self.assertIs(bars(DRIFTING, (EAST, WEST, NORTH), (3, 1, 3)), False)

    def test_by_their_words(self):
        rng = random.Random(2)
        seen = {True: 0, False: 0}
        for _ in range(300):
            velocities, shores = random_velocities(rng), random_shores(rng, 4)
            weights = tuple(rng.choice((0, 0, 1, 2, 7)) for _ in shores)
            sums = [sum(parts) for parts in zip(*[[weight * gain for gain in gains_of(shore, velocities)]
                                                  for weight, shore in zip(weights, shores)])]
            right = all(total > 0 for total in sums)
            self.assertIs(bars(velocities, shores, weights), right)
            seen[right] += 1
            if right:
                self.assertIs(holds_off(velocities, shores), False)
        self.assertGreater(min(seen.values()), 30)

    def test_weights_that_are_told(self):
        rng = random.Random(3)
        seen = {0: 0, 1: 0, 2: 0}
        for _ in range(400):
            velocities, shores = random_velocities(rng), random_shores(rng, rng.choice((2, 8)))
            weights = barring_weights(velocities, shores)
            if slow_holding(velocities, shores) is not None:
                self.assertIsNone(weights)
                seen[0] += 1
                continue
            self.assertIsInstance(weights, tuple)
            self.assertEqual(len(weights), len(shores))
            self.assertTrue(all(type(weight) is int and weight >= 0 for weight in weights))
            some = [weight for weight in weights if weight > 0]
            self.assertIn(len(some), (1, 2))
            seen[len(some)] += 1
            self.assertIs(bars(velocities, shores, weights), True)
            sums = [sum(parts) for parts in zip(*[[weight * gain for gain in gains_of(shore, velocities)]
                                                  for weight, shore in zip(weights, shores)])]
            self.assertTrue(all(total > 0 for total in sums))
        self.assertGreater(min(seen.values()), 20, seen)

    def test_weights_with_one_right_share_alone(self):
        # The share has to lie between 999/1000 and 1001/1000.
        velocities = ((-999, 1000, 1), (1000, -999, 1))
        weights = barring_weights(velocities, (EAST, NORTH))
        self.assertIs(bars(velocities, (EAST, NORTH), weights), True)
        self.assertIs(bars(velocities, (EAST, NORTH), (999, 1000)), False)
        self.assertIs(bars(velocities, (EAST, NORTH), (1000, 999)), False)
        self.assertIsNone(barring_weights(((-1, 1, 1), (1, -1, 1)), (EAST, NORTH)))
        # A corner with the gain 0 wants some weight of the other shore.
        for velocities in (((-1, 1, 1), (1, 0, 1)), ((0, 1, 1), (1, -1, 1)), ((0, 1, 1), (1, 0, 1))):
            for shores in ((EAST, NORTH), (NORTH, EAST)):
                self.assertIs(bars(velocities, shores, barring_weights(velocities, shores)), True)

    def test_the_nearest_of_several_bounds(self):
        # From the corners in their order the bounds grow tighter for the one shore, and wider for the other one.
        velocities = ((-4, 5, 1), (-1, 1, 1), (2, -1, 2), (4, -1, 1), (4, 5, 1))
        for shores in ((EAST, NORTH), (NORTH, EAST)):
            self.assertEqual(embayed_by(velocities, shores), (0, 1))
            self.assertIs(bars(velocities, shores, barring_weights(velocities, shores)), True)
        self.assertIs(bars(velocities, (EAST, NORTH), (4, 10)), False)
        self.assertIs(bars(velocities, (EAST, NORTH), (11, 10)), False)
        rng = random.Random(9)
        many = 0
        for _ in range(150):
            # Beyond a line through nought that leads from the second quarter to the fourth one.
            x, y = rng.randint(1, 9), rng.randint(1, 9)
            points = [random_point(rng, 9) for _ in range(12)]
            points = [point for point in points if x * point[0] + y * point[1] > 0]
            velocities = slow_hull(points + [pt(-9, Fraction(9 * x + 1, y)), pt(Fraction(9 * y + 1, x), -9)])
            for shores in ((EAST, NORTH), (NORTH, EAST)):
                weights = barring_weights(velocities, shores)
                many += len(velocities)
                self.assertEqual(embayed_by(velocities, shores), (0, 1))
                self.assertTrue(all(weights) and bars(velocities, shores, weights))
                self.assertTrue(all(sum(parts) > 0 for parts in zip(
                    *[[weight * gain for gain in gains_of(shore, velocities)]
                      for weight, shore in zip(weights, shores)])))
        self.assertGreater(many, 1000)
        # The second shore cannot be held off by itself; nor can the first one beside it.
        self.assertIs(bars(DRIFTING, (WEST, EAST), barring_weights(DRIFTING, (WEST, EAST))), True)

    def test_bounds_in_any_order(self):
        # Corners with any numbers, in any order: those that hold off the one shore, the other one, or none.
        rng = random.Random(10)
        for _ in range(300):
            low, high = sorted(Fraction(rng.randint(0, 60), rng.randint(1, 60)) for _ in range(2))
            corners = [(rng.randint(1, 99), rng.randint(1, 99), 1) for _ in range(rng.randint(0, 2))]
            for _ in range(rng.randint(1, 5)):
                size, share = rng.randint(1, 99), rng.choice((Fraction(1), Fraction(rng.randint(0, 9), 9)))
                corners.append((size, -low * share * size))
                corners.append((-size * share, high * size + 1))
            rng.shuffle(corners)
            corners = [pt(*corner[:2]) for corner in corners]
            weights = weights_of_two(corners, EAST, NORTH)
            self.assertTrue(all(weights[0] * x + weights[1] * y > 0 for x, y in map(spot, corners)))


def slow_holds_in(figure, stream, shore, wind):
    """Whether some velocity of the turned figure, with the stream, is at most 0 on the shore's normal."""
    (a, b, _), (x, y) = shore, spot(stream)
    least = min(a * u + b * v for u, v in turned_figure(figure, wind))
    drift = a * x + b * y
    # least / |w| + drift is at most 0, and least is, too.
    return drift <= 0 or drift ** 2 * (wind[0] ** 2 + wind[1] ** 2) <= least ** 2


def turned_onto(normal, shore):
    """The wind that turns a vector along the opposite of the shore's normal."""
    (x, y), (a, b) = normal, shore[:2]
    return reduced(-a * x - b * y, a * y - b * x)


def slow_winds_off(figure, stream, shore):
    """Worst in a wind that turns a side's normal against the shore, best in one that turns a corner there."""
    spots = [spot(corner) for corner in figure]
    normals = [(v - y, x - u) for (x, y), (u, v) in zip(spots, spots[1:] + spots[:1])]
    if all(slow_holds_in(figure, stream, shore, turned_onto(normal, shore)) for normal in normals):
        return "all"
    corners = [corner for corner in spots if corner != (0, 0)]
    if any(slow_holds_in(figure, stream, shore, turned_onto(corner, shore)) for corner in corners):
        return "some"
    return "none"


def random_stream(rng):
    return random_point(rng, rng.choice((1, 2, 4)), (1, 2, 3, 5))


class AllWinds(unittest.TestCase):
    def test_examples(self):
        self.assertEqual([winds_off(BOX, stream, EAST) for stream in ((1, 0, 1), (5, 0, 4), (2, 0, 1))],
                         ["all", "some", "none"])
        self.assertIs(holds_in_wind(BOX, (5, 0, 4), EAST, (1, 1)), True)
        self.assertIs(holds_in_wind(BOX, (5, 0, 4), EAST, (1, 0)), False)

    def test_streams_as_strong_as_the_figure(self):
        beyond = (10 ** 20 + 1, 0, 10 ** 20)
        self.assertEqual(winds_off(BOX, beyond, EAST), "some")
        self.assertEqual(winds_off(KITE, (3, 0, 1), EAST), "some")
        self.assertEqual(winds_off(KITE, (3 * 10 ** 20 + 1, 0, 10 ** 20), EAST), "none")
        # The length 5 of a corner and the distance 5 of a side, off a shore that is slanted.
        long, slanted = ((-3, -4, 1), (3, -4, 1), (3, 4, 1), (-3, 4, 1)), (3, 4, 0)
        self.assertEqual(winds_off(long, (3, 4, 1), slanted), "some")
        self.assertEqual(winds_off(long, (30001, 40001, 10000), slanted), "none")
        self.assertEqual(winds_off(long, (9, 12, 5), slanted), "all")
        self.assertEqual(winds_off(long, (90001, 120000, 50000), slanted), "some")
        self.assertIs(holds_in_wind(KITE, (3, 0, 1), EAST, (-1, 0)), True)
        self.assertIs(holds_in_wind(KITE, (3, 0, 1), EAST, (-10 ** 20, 1)), False)
        self.assertIs(holds_in_wind(KITE, (1, 0, 1), EAST, (1, 0)), True)
        self.assertIs(holds_in_wind(KITE, beyond, EAST, (1, 0)), False)

    def test_streams_off_the_shore(self):
        for figure in FIGURES:
            for stream in ((0, 0, 1), (-1, 0, 1), (0, 5, 1), (-10 ** 20, 7, 3)):
                self.assertEqual(winds_off(figure, stream, EAST), "all")
                for wind in ((1, 0), (-1, 0), (3, 4), (-2, 7)):
                    self.assertIs(holds_in_wind(figure, stream, EAST, wind), True)

    def test_nought_on_a_side_or_a_corner(self):
        for figure in (WEDGE, BEAM):
            self.assertEqual(winds_off(figure, (1, 0, 10 ** 20), EAST), "some")
            self.assertIs(holds_in_wind(figure, (1, 0, 10 ** 20), EAST, (0, 1)), True)
        self.assertIs(holds_in_wind(BEAM, (1, 0, 10 ** 20), EAST, (0, -1)), False)
        self.assertIs(holds_in_wind(WEDGE, (1, 0, 10 ** 20), EAST, (1, 0)), False)
        self.assertIs(holds_in_wind(WEDGE, (1, 0, 1), EAST, (-1, 0)), True)
        self.assertIs(holds_in_wind(WEDGE, (1, 0, 1), EAST, (0, 1)), True)
        self.assertIs(holds_in_wind(WEDGE, (1, 0, 1), EAST, (3, 4)), False)

    def test_the_normal_may_have_any_length(self):
        rng = random.Random(4)
        for _ in range(60):
            figure, stream, wind = random_figure(rng, 3), random_stream(rng), rng.choice(SOME_DIRECTIONS)
            shore = random_shore(rng)
            longer = (shore[0] * 7, shore[1] * 7, 1)
            self.assertIs(holds_in_wind(figure, stream, shore, wind), holds_in_wind(figure, stream, longer, wind))
            self.assertEqual(winds_off(figure, stream, shore), winds_off(figure, stream, longer))

    def test_random_winds(self):
        rng = random.Random(5)
        seen = {True: 0, False: 0}
        for _ in range(300):
            figure = rng.choice(FIGURES) if rng.random() < 0.5 else random_figure(rng, 3)
            stream, shore, wind = random_stream(rng), random_shore(rng), rng.choice(SOME_DIRECTIONS)
            slow = slow_holds_in(figure, stream, shore, wind)
            self.assertIs(holds_in_wind(figure, stream, shore, wind), slow)
            seen[slow] += 1
        self.assertGreater(min(seen.values()), 30, seen)

    def test_winds_of_whole_length(self):
        # There the turned figure is told by fractions, so that its velocities can be looked at one by one.
        rng = random.Random(6)
        for _ in range(100):
            figure, stream, shore = random_figure(rng, 3), random_stream(rng), random_shore(rng)
            for c, s, length in ((3, 4, 5), (-5, 12, 13), (8, -15, 17), (-1, 0, 1)):
                turned = [((c * x - s * y) / length, (s * x + c * y) / length) for x, y in map(spot, figure)]
                u, v = spot(stream)
                moved = tuple(pt(x + u, y + v) for x, y in turned)
                slow = any(gain <= 0 for gain in gains_of(shore, moved))
                self.assertIs(holds_in_wind(figure, stream, shore, (c, s)), slow)

    def test_random_words(self):
        rng = random.Random(7)
        seen = {}
        for _ in range(300):
            figure = rng.choice(FIGURES) if rng.random() < 0.5 else random_figure(rng, 3)
            stream, shore = random_stream(rng), random_shore(rng)
            word = winds_off(figure, stream, shore)
            self.assertEqual(word, slow_winds_off(figure, stream, shore))
            seen[word] = seen.get(word, 0) + 1
            held = {slow_holds_in(figure, stream, shore, wind) for wind in SOME_DIRECTIONS[::3]}
            self.assertTrue(held <= {"all": {True}, "none": {False}, "some": {True, False}}[word])
        self.assertGreater(min(seen.values()), 15, seen)


def slow_weather_ways(shore, start, headland):
    """The way to the headland and the normal, as spots."""
    (x, y), (u, v) = spot(start), spot(headland)
    return (u - x, v - y), (shore[0], shore[1])


def slow_weather_time(figure, shore, start, headland):
    """The least time over the ways d - s * n, s from 0 on, at 0, where the way is nought and where it is on a corner."""
    d, n = slow_weather_ways(shore, start, headland)
    shares = [Fraction(0)]
    for u, v in list(map(spot, figure)) + [(-n[1], n[0])]:
        # d - s * n is along (u, v).
        if n[0] * v - n[1] * u != 0:
            shares.append((d[0] * v - d[1] * u) / (n[0] * v - n[1] * u))
    times = [slow_time(figure, pt(d[0] - share * n[0], d[1] - share * n[1])) for share in shares if share >= 0]
    times = [time for time in times if time is not None]
    return min(times) if times else None


def slow_runs(figure, shore, start, headland):
    """Along which corners a ray from the start meets the ray from the headland against the normal."""
    d, n = slow_weather_ways(shore, start, headland)
    found = []
    for k, (u, v) in enumerate(map(spot, figure)):
        if (u, v) == (0, 0):
            continue
        det = u * n[1] - v * n[0]
        if det != 0:
            run, share = (d[0] * n[1] - d[1] * n[0]) / Fraction(det), (u * d[1] - v * d[0]) / Fraction(det)
            leads = run >= 0 and share >= 0
        else:
            on_line = d[0] * n[1] == d[1] * n[0]
            leads = on_line and (d[0] * n[0] + d[1] * n[1] >= 0 or u * n[0] + v * n[1] < 0)
        if leads:
            found.append(k)
    return tuple(found)


def random_off(rng):
    """A shore and two points on its water; at times both on one line along its normal."""
    while True:
        shore = random_shore(rng, 2)
        start, headland = random_point(rng), random_point(rng)
        if rng.random() < 0.3:
            x, y = spot(start)
            share = Fraction(rng.randint(-4, 4), 2)
            headland = pt(x + share * shore[0], y + share * shore[1])
        if all(gains_of(shore, (point,))[0] <= shore[2] for point in (start, headland)):
            return shore, start, headland


class Headlands(unittest.TestCase):
    def test_by_the_way_to_the_headland(self):
        # The shore lies to the north; the headland is as soon as any point to the south of it.
        self.assertEqual(weather_time(DIAMOND, (0, 1, 9), (0, 0, 1), (3, 0, 1)), (3, 1))
        self.assertEqual(weather_point(DIAMOND, (0, 1, 9), (0, 0, 1), (3, 0, 1)), (3, 0, 1))
        self.assertEqual(weather_time(DIAMOND, (0, 1, 9), (0, 0, 1), (3, -2, 1)), (5, 1))
        self.assertEqual(weather_point(DIAMOND, (0, 1, 9), (0, 0, 1), (3, -2, 1)), (3, -2, 1))
        self.assertEqual(weathering_runs(DIAMOND, (0, 1, 9), (0, 0, 1), (3, 0, 1)), (2,))
        self.assertEqual(weathering_runs(DIAMOND, (0, 1, 9), (0, 0, 1), (3, -2, 1)), ())
        # Straight to leeward of the headland: it has to beat all the way.
        self.assertEqual(weather_time(DIAMOND, (0, 1, 9), (0, 5, 1), (0, 3, 1)), (2, 1))
        self.assertEqual(weathering_runs(DIAMOND, (0, 1, 9), (0, 5, 1), (0, 3, 1)), (1,))

    def test_by_a_way_along_one_corner(self):
        self.assertEqual(weather_time(DIAMOND, (0, 1, 9), (0, 0, 1), (3, 2, 1)), (3, 1))
        self.assertEqual(weather_point(DIAMOND, (0, 1, 9), (0, 0, 1), (3, 2, 1)), (3, 0, 1))
        self.assertEqual(weathering_runs(DIAMOND, (0, 1, 9), (0, 0, 1), (3, 2, 1)), (2,))
        self.assertEqual(weather_time(BOX, (0, 1, 0), (0, 0, 1), (4, -1, 1)), (4, 1))
        self.assertEqual(weathering_runs(BOX, (0, 1, 0), (0, 0, 1), (4, -1, 1)), (1,))
        # To the north alone the headland itself cannot be made, but a point beside it.
        down = ((-2, -1, 1), (2, -1, 1), (0, 0, 1))
        self.assertEqual(weather_time(down, (0, 1, 9), (0, 0, 1), (4, 0, 1)), (2, 1))
        self.assertEqual(weather_point(down, (0, 1, 9), (0, 0, 1), (4, 0, 1)), (4, -2, 1))
        self.assertEqual(weathering_runs(down, (0, 1, 9), (0, 0, 1), (4, 0, 1)), (1,))

    def test_weathered_already(self):
        self.assertEqual(weather_time(BOX, (0, 1, 0), (4, -3, 1), (4, -1, 1)), (0, 1))
        self.assertEqual(weather_point(BOX, (0, 1, 0), (4, -3, 1), (4, -1, 1)), (4, -3, 1))
        self.assertEqual(weathering_runs(BOX, (0, 1, 0), (4, -3, 1), (4, -1, 1)), (0, 1, 2, 3))
        # Nought is no corner that is told; those along the normal are.
        self.assertEqual(weathering_runs(WEDGE, (0, 1, 0), (4, -3, 1), (4, -1, 1)), (1, 2))
        self.assertEqual(weathering_runs(DIAMOND, (0, 1, 0), (4, -3, 1), (4, -1, 1)), (0, 1, 2, 3))
        for figure in FIGURES:
            self.assertEqual(weather_time(figure, (1, 1, 9), (1, 2, 1), (1, 2, 1)), (0, 1))
            self.assertEqual(weather_point(figure, (1, 1, 9), (1, 2, 1), (1, 2, 1)), (1, 2, 1))
            self.assertEqual(len(weathering_runs(figure, (1, 1, 9), (1, 2, 1), (1, 2, 1))),
                             len([corner for corner in figure if corner != (0, 0, 1)]))

    def test_never(self):
        self.assertIsNone(weather_time(WEDGE, (0, 1, 9), (0, 0, 1), (-1, 0, 1)))
        self.assertIsNone(weather_point(WEDGE, (0, 1, 9), (0, 0, 1), (-1, 0, 1)))
        self.assertEqual(weathering_runs(WEDGE, (0, 1, 9), (0, 0, 1), (-1, 0, 1)), ())
        self.assertIsNone(weather_time(WEDGE, (0, 1, 9), (0, 0, 1), (0, -1, 1)))
        up = ((-1, 1, 1), (0, 0, 1), (1, 1, 1))
        self.assertIsNone(weather_time(up, (0, 1, 9), (0, 0, 1), (3, 2, 1)))
        self.assertEqual(weather_time(up, (0, 1, 9), (0, 0, 1), (3, 3, 1)), (3, 1))
        self.assertEqual(weather_time(up, (0, 1, 9), (0, 0, 1), (3, 4, 1)), (3, 1))

    def test_on_the_shore_itself(self):
        self.assertEqual(weather_time(DIAMOND, (0, 1, 2), (0, 2, 1), (3, 2, 1)), (3, 1))
        self.assertEqual(weather_time(DIAMOND, (1, 0, 2), (2, 0, 1), (2, 5, 1)), (5, 1))

    def test_random_ones(self):
        rng = random.Random(8)
        seen = {"none": 0, "nought": 0, "headland": 0, "corner": 0}
        for _ in range(500):
            figure = rng.choice(FIGURES) if rng.random() < 0.4 else random_figure(rng, 3)
            shore, start, headland = random_off(rng)
            slow = slow_weather_time(figure, shore, start, headland)
            time, point = weather_time(figure, shore, start, headland), weather_point(figure, shore, start, headland)
            self.assertEqual(time, told(slow))
            self.assertEqual(weathering_runs(figure, shore, start, headland), slow_runs(figure, shore, start, headland))
            self.assertEqual(point is None, slow is None)
            if slow is None:
                seen["none"] += 1
                continue
            self.check_point(figure, shore, start, headland, slow, point)
            seen["nought" if slow == 0 else "headland" if point == headland else "corner"] += 1
        self.assertGreater(min(seen.values()), 25, seen)

    def check_point(self, figure, shore, start, headland, time, point):
        (x, y), (u, v), (a, b) = spot(headland), spot(point), shore[:2]
        # The headland lies along the normal from the point, and no other such point is sooner.
        self.assertTrue((x - u) * b == (y - v) * a and (x - u) * a + (y - v) * b >= 0)
        s, t = spot(start)
        self.assertEqual(slow_time(figure, pt(u - s, v - t)), time)
        for share in (Fraction(0), Fraction(1, 9), Fraction(1), Fraction(7, 3), Fraction(5)):
            other = slow_time(figure, pt(x - share * a - s, y - share * b - t))
            self.assertTrue(other is None or other >= time)


FIGURE_ROW = ("figure", KITE, wrong_given(NOT_FIGURE, InvalidFigure))
VELOCITIES_ROW = ("velocities", DRIFTING, wrong_given(NOT_POLYGON, InvalidPolygon))
SHORES_ROW = ("shores", ((1, 1, 9), (1, -1, 9)), wrong_index(WRONG_SHORES, InvalidShores))
SHORE_ROW = ("shore", (0, 1, 2), wrong_given(NOT_SIDE, InvalidSide))
STREAM_ROW = ("stream", (5, 1, 4), wrong_given(NOT_POINT, InvalidPoint))
ASHORE = [(0, 3, 1), (7, 2 * 10 ** 20 + 1, 10 ** 20)]
START_ROW = ("start", (0, 0, 1), wrong_given(NOT_POINT, InvalidPoint) + wrong_given(ASHORE, OffWater))
HEADLAND_ROW = ("headland", (3, 1, 1), START_ROW[2])


class WrongArguments(unittest.TestCase):
    def test_shores(self):
        for call in (holds_off, held_with, embayed_by, barring_weights):
            check_arguments(self, call, [VELOCITIES_ROW, SHORES_ROW])

    def test_weights(self):
        check_arguments(self, bars, [VELOCITIES_ROW, SHORES_ROW, (
            "weights", (1, 1), wrong_given(not_weights(2), InvalidWeights))])

    def test_winds(self):
        check_arguments(self, holds_in_wind, [FIGURE_ROW, STREAM_ROW, SHORE_ROW, (
            "wind", (2, -1), wrong_given(NOT_DIRECTION, InvalidWind))])
        check_arguments(self, winds_off, [FIGURE_ROW, STREAM_ROW, SHORE_ROW])

    def test_headlands(self):
        for call in (weather_time, weather_point, weathering_runs):
            check_arguments(self, call, [FIGURE_ROW, SHORE_ROW, START_ROW, HEADLAND_ROW])

    def test_eight_shores(self):
        eight = tuple((x, y, 9) for x, y in product((-1, 0, 1), repeat=2) if (x, y) != (0, 0))
        self.assertEqual(len(eight), 8)
        self.assertIs(holds_off(KITE, eight), True)
        self.assertIs(bars(KITE, eight, (1,) * 8), False)
        for call in (holds_off, held_with, embayed_by, barring_weights):
            with self.assertRaises(InvalidShores) as caught:
                call(KITE, eight + (EAST,))
            self.assertEqual(caught.exception.index, 8)


if __name__ == "__main__":
    unittest.main()
