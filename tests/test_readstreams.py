"""[53]: the steady streams in which noted trips of a known figure can have been made."""
import random
import unittest
from fractions import Fraction
from itertools import combinations

from tests.helpers import (NOT_FIGURE, NOT_POINT, check_arguments, check_raised, in_hull, num, pair, pt, random_figure,
                           random_point, slow_common, slow_hull, spot, wrong_given, wrong_index)
from tests.wrong import BEAM, BOX, DIAMOND, KITE, WEDGE, WRONG_TRIPS
from windfigure.errors import InvalidFigure, InvalidPoint, InvalidTrips
from windfigure.figures import times_in_streams
from windfigure.polygons import is_polygon
from windfigure.readstreams import stream_fits, streams_that_fit, trips_at_odds

HOUR = (1, 1)


def trip_with(rng, velocity):
    time = Fraction(rng.randint(1, 4), rng.choice((1, 2, 3)))
    x, y = velocity
    return (pt(x * time, y * time), pair(time))


def slow_velocity(trip):
    x, y = spot(trip[0])
    return (x / num(trip[1]), y / num(trip[1]))


def slow_streams(figure, trips):
    found = None
    for trip in trips:
        x, y = slow_velocity(trip)
        streams = slow_hull([pt(x - u, y - v) for u, v in map(spot, figure)])
        found = streams if found is None else slow_common(found, streams)
        if found is None:
            return None
    return found


def slow_odds(figure, trips):
    for many in range(1, len(trips) + 1):
        for chosen in combinations(range(len(trips)), many):
            if slow_streams(figure, [trips[index] for index in chosen]) is None:
                return chosen
    return None


class Streams(unittest.TestCase):
    def test_examples(self):
        self.assertEqual(streams_that_fit(KITE, (((4, 0, 1), (2, 1)),)), ((-1, 0, 1), (1, -2, 1), (3, 0, 1), (1, 2, 1)))
        self.assertEqual(streams_that_fit(KITE, (((2, 0, 1), HOUR), ((-2, 0, 1), HOUR))), ((-1, 0, 1),))
        self.assertEqual(trips_at_odds(KITE, (((2, 0, 1), HOUR), ((-2, 0, 1), HOUR), ((-3, 0, 1), HOUR))), (0, 2))
        self.assertIs(stream_fits(KITE, (((2, 0, 1), HOUR),), (0, 0, 1)), True)

    def test_an_area_a_stretch_a_point_none(self):
        self.assertEqual(streams_that_fit(BOX, (((1, 0, 1), HOUR), ((0, 2, 1), (2, 1)))),
                         ((0, 0, 1), (1, 0, 1), (1, 1, 1), (0, 1, 1)))
        self.assertEqual(streams_that_fit(BOX, (((2, 0, 1), HOUR), ((0, 0, 1), HOUR))), ((1, -1, 1), (1, 1, 1)))
        self.assertEqual(streams_that_fit(BOX, (((2, 2, 1), HOUR), ((0, 0, 1), HOUR))), ((1, 1, 1),))
        near = 10 ** 20
        self.assertIsNone(streams_that_fit(BOX, (((2 * near + 1, 0, near), HOUR), ((0, 0, 1), HOUR))))
        self.assertEqual(trips_at_odds(BOX, (((2 * near + 1, 0, near), HOUR), ((0, 0, 1), HOUR))), (0, 1))
        self.assertIsNone(trips_at_odds(BOX, (((2, 0, 1), HOUR), ((0, 0, 1), HOUR))))
        # The boat cannot go to the west without a stream: this one is read from one trip.
        self.assertEqual(streams_that_fit(WEDGE, (((-1, 0, 1), HOUR),)), ((-2, -1, 1), (-1, 0, 1), (-2, 1, 1)))

    def test_on_the_rim_and_beyond(self):
        trips = (((1, 0, 1), HOUR), ((0, 2, 1), (2, 1)))
        for stream, fitting in (((0, 0, 1), True), ((1, 1, 1), True), ((1, 0, 2), True), ((1, 1, 2), True),
                                ((10 ** 20 + 1, 0, 10 ** 20), False), ((-1, 1, 10 ** 20), False), ((2, 2, 1), False)):
            self.assertIs(stream_fits(BOX, trips, stream), fitting)

    def test_at_odds_by_three(self):
        # Each two of the moved triangles have a point in common, all three have none.
        triangle = ((0, 0, 1), (2, 0, 1), (0, 2, 1))
        trips = (((0, 2, 1), HOUR), ((2, 0, 1), HOUR), ((3, 3, 2), HOUR))
        self.assertEqual(trips_at_odds(triangle, trips), (0, 1, 2))
        self.assertIsNone(streams_that_fit(triangle, trips))
        self.assertIsNone(trips_at_odds(triangle, trips[:2] + (((2, 2, 1), (2, 1)),)))
        self.assertEqual(streams_that_fit(triangle, trips[:2] + (((2, 2, 1), (2, 1)),)), ((0, 0, 1),))
        near = (10 ** 20 + 1, 10 ** 20 + 1, 10 ** 20)
        self.assertEqual(trips_at_odds(triangle, trips[:2] + ((near, HOUR),)), (0, 1, 2))
        # Of several such tuples the first one, and two before three.
        self.assertEqual(trips_at_odds(triangle, trips[:1] + trips + trips), (0, 2, 3))
        self.assertEqual(trips_at_odds(triangle, trips + (((9, 9, 1), HOUR),)), (0, 3))
        self.assertEqual(trips_at_odds(triangle, (((1, 1, 1), HOUR),) + trips[::-1]), (1, 2, 3))

    def test_one_to_twelve(self):
        trip, odd = ((1, 0, 1), HOUR), ((-9, 0, 1), HOUR)
        for many in range(1, 13):
            self.assertEqual(streams_that_fit(BOX, (trip,) * many), ((0, -1, 1), (2, -1, 1), (2, 1, 1), (0, 1, 1)))
            self.assertIsNone(trips_at_odds(BOX, (trip,) * many))
            self.assertIs(stream_fits(BOX, (trip,) * many, (2, 1, 1)), True)
        self.assertEqual(trips_at_odds(BOX, (trip,) * 11 + (odd,)), (0, 11))
        self.assertEqual(trips_at_odds(BOX, (odd,) * 2 + (trip,) * 10), (0, 2))
        for call, more in ((streams_that_fit, ()), (trips_at_odds, ()), (stream_fits, ((0, 0, 1),))):
            check_raised(self, InvalidTrips, "index", 12, call, BOX, (trip,) * 13, *more)
            check_raised(self, InvalidTrips, "index", None, call, BOX, (), *more)

    def test_random_ones(self):
        rng = random.Random(1)
        seen = {"none": 0, "point": 0, "area": 0, 2: 0, 3: 0}
        for _ in range(400):
            figure = rng.choice((KITE, DIAMOND, BOX, WEDGE, BEAM)) if rng.random() < 0.6 else random_figure(rng, 3)
            stream = spot(random_point(rng, 2, (1, 1, 2)))
            trips = []
            for _ in range(rng.randint(1, 5)):
                (x, y), (u, v) = spot(rng.choice(figure)), spot(random_point(rng, 4))
                far = rng.choice((1, 1, 1, Fraction(1, 2), Fraction(5, 4)))
                trips.append(trip_with(rng, (stream[0] + far * x, stream[1] + far * y) if rng.random() < 0.8 else (u, v)))
            if rng.random() < 0.2:
                # A triangle, and ways about as long as it is wide.
                figure = ((-1, -2, 1), (2, 0, 1), (-1, 2, 1))
                trips = [trip_with(rng, spot(random_point(rng, 2, (1, 2, 3)))) for _ in range(rng.randint(3, 5))]
            trips = tuple(trips)
            found, slow = streams_that_fit(figure, trips), slow_streams(figure, trips)
            self.assertEqual(found, slow)
            odds = trips_at_odds(figure, trips)
            self.assertEqual(odds, slow_odds(figure, trips))
            seen["none" if found is None else "area" if len(found) > 2 else "point"] += 1
            if odds is not None:
                seen[len(odds)] += 1
                self.assertIsNone(found)
                continue
            self.assertTrue(is_polygon(found))
            spots = [spot(corner) for corner in found]
            for place in list(found) + [random_point(rng, 2, (1, 2, 3)), pt(*stream)]:
                fitting = in_hull(spot(place), spots)
                self.assertIs(stream_fits(figure, trips, place), fitting)
                made = []
                for way, time in trips:
                    times = times_in_streams(figure, (place,), way)
                    made.append(times is not None and num(times[0]) <= num(time)
                                and (times[1] is None or num(time) <= num(times[1])))
                self.assertIs(all(made), fitting)
        self.assertGreater(min(seen.values()), 4, seen)


FIGURE_ROW = ("figure", KITE, wrong_given(NOT_FIGURE, InvalidFigure))
TRIPS_ROW = ("trips", (((1, 2, 3), (1, 2)), ((0, 0, 1), (5, 1))), wrong_index(WRONG_TRIPS, InvalidTrips))


class WrongArguments(unittest.TestCase):
    def test_all(self):
        for call in (streams_that_fit, trips_at_odds):
            check_arguments(self, call, [FIGURE_ROW, TRIPS_ROW])
        check_arguments(self, stream_fits, [FIGURE_ROW, TRIPS_ROW, (
            "stream", (1, 2, 3), wrong_given(NOT_POINT, InvalidPoint))])


if __name__ == "__main__":
    unittest.main()
