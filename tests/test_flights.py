"""[44]: what is left of the bearing, where the fleer is met, and what it can reach before."""
import random
import unittest
from fractions import Fraction

from tests.helpers import (NOT_POLYGON, check_arguments, check_raised, in_hull, meeting, num, pair, pt, random_polygon,
                           slow_common, slow_hull, spot, wrong_given, wrong_index)
from tests.slow import bearing_between, random_chase, slow_catch_time, slow_closing
from tests.wrong import BOX, DIAMOND, NOT_MOVER, NOT_TACK, ONE_MOVER, WEDGE, rows_of
from windfigure.errors import InvalidFlight, InvalidMover, InvalidPolygon, NotSure
from windfigure.flights import catch_places, may_reach, met_in, share_left
from windfigure.points import is_fraction
from windfigure.polygons import is_polygon

HOME = (0, 0, 1)
FAST = ((-2, -2, 1), (2, -2, 1), (2, 2, 1), (-2, 2, 1))
CHASER, FLEER = (FAST, (6, 0, 1)), (DIAMOND, HOME)
STILL = ((0, 0, 1),)
NORTH, EAST, WEST = (0, 1, 1), (1, 0, 1), (-1, 0, 1)


def random_sure_chase(rng):
    """A chase in which the fleer is surely caught."""
    while True:
        chaser, fleer = random_chase(rng)
        if slow_catch_time(chaser, fleer) is not None:
            return chaser, fleer


def random_velocity(rng, fleeing):
    weights = [rng.choice((0, 1, 1, 3)) for _ in fleeing]
    if sum(weights) == 0:
        return rng.choice(fleeing)
    return pt(*[sum(Fraction(weight, sum(weights)) * place[k] for weight, place in zip(weights, map(spot, fleeing)))
                for k in (0, 1)])


def random_flight(rng, fleeing, most=4):
    return tuple((random_velocity(rng, fleeing), (rng.randint(1, 5), rng.choice((1, 2, 5, 9))))
                 for _ in range(rng.randint(1, most)))


def reduced_flight(flight):
    return tuple((velocity, pair(Fraction(*time))) for velocity, time in flight)


def slow_chase(chaser, fleer, flight):
    """The share left, the time and the place at the end of the flight or when the fleer is met."""
    bearing, (x, y) = bearing_between(chaser, fleer), spot(fleer[1])
    left, gone = Fraction(1), Fraction(0)
    if bearing == HOME:
        return Fraction(0), gone, fleer[1]
    for velocity, time in flight:
        number, (u, v) = slow_closing(chaser[0], bearing, velocity), spot(velocity)
        time = min(num(time), left / number)
        x, y, gone, left = x + time * u, y + time * v, gone + time, left - time * number
    return left, gone, pt(x, y)


def slow_places(chaser, fleer):
    """The hull of v / x over the fleer's corners and where its edges meet the lines through the chaser's corners."""
    bearing, (x, y) = bearing_between(chaser, fleer), spot(fleer[1])
    if bearing == HOME:
        return (fleer[1],)
    u, v = spot(bearing)
    spots = [spot(corner) for corner in fleer[0]]
    found = list(spots)
    for p, q in map(spot, chaser[0]):
        for k in range(len(spots)):
            met = meeting((p - 999 * u, q - 999 * v), (p + 999 * u, q + 999 * v), spots[k - 1], spots[k])
            if met is not None:
                found.append(met)
    ways = []
    for p, q in found:
        number = slow_closing(chaser[0], bearing, pt(p, q))
        ways.append(pt(x + p / number, y + q / number))
    return slow_hull(ways)


class Flights(unittest.TestCase):
    def test_examples(self):
        self.assertEqual(share_left(CHASER, FLEER, ((NORTH, (1, 1)),)), (2, 3))
        self.assertEqual(met_in(CHASER, FLEER, ((NORTH, (1, 1)), (EAST, (4, 1)))), ((7, 3), (4, 3, 3)))

    def test_in_the_midst_at_the_end_and_not_at_all(self):
        self.assertEqual(share_left(CHASER, FLEER, ((WEST, (1, 1)),)), (5, 6))
        self.assertEqual(share_left(CHASER, FLEER, ((WEST, (5, 1)), (NORTH, (1, 4)))), (1, 12))
        self.assertIsNone(met_in(CHASER, FLEER, ((WEST, (5, 1)), (NORTH, (1, 4)))))
        # Just at the end of a flight, and of a part of it; a moment sooner nothing is met.
        self.assertEqual(share_left(CHASER, FLEER, ((WEST, (6, 1)),)), (0, 1))
        self.assertEqual(met_in(CHASER, FLEER, ((WEST, (6, 1)),)), ((6, 1), (-6, 0, 1)))
        almost = (6 * 10 ** 20 - 1, 10 ** 20)
        self.assertEqual(share_left(CHASER, FLEER, ((WEST, almost),)), (1, 6 * 10 ** 20))
        self.assertIsNone(met_in(CHASER, FLEER, ((WEST, almost),)))
        self.assertEqual(met_in(CHASER, FLEER, ((WEST, (3, 1)), (EAST, (1, 1)), (NORTH, (9, 1)))), ((4, 1), (-2, 0, 1)))
        self.assertEqual(share_left(CHASER, FLEER, ((WEST, (3, 1)), (EAST, (1, 1)), (NORTH, (9, 1)))), (0, 1))
        # In the first of several, and long after the fleer has been met.
        self.assertEqual(met_in(CHASER, FLEER, ((EAST, (40, 1)), (WEST, (40, 1)))), ((2, 1), (2, 0, 1)))
        self.assertEqual(share_left(CHASER, FLEER, ((EAST, (40, 1)), (WEST, (40, 1)))), (0, 1))
        self.assertEqual(met_in(CHASER, FLEER, ((HOME, (1, 1)),) * 12), ((3, 1), HOME))
        self.assertEqual(share_left(CHASER, FLEER, ((HOME, (1, 6)),) * 12), (1, 3))

    def test_at_one_place(self):
        for chaser in ((STILL, HOME), (WEDGE, HOME), (FAST, HOME)):
            self.assertEqual(share_left(chaser, FLEER, ((EAST, (1, 1)),)), (0, 1))
            self.assertEqual(met_in(chaser, FLEER, ((EAST, (1, 1)),)), ((0, 1), HOME))
            self.assertEqual(catch_places(chaser, FLEER), (HOME,))
            self.assertIs(may_reach(chaser, FLEER, (HOME,)), True)
            self.assertIs(may_reach(chaser, FLEER, ((0, 0, 1), (1, 0, 1))), True)
            self.assertIs(may_reach(chaser, FLEER, ((1, 0, 10 ** 20),)), False)

    def test_random_ones(self):
        rng = random.Random(1)
        seen = {"met": 0, "left": 0}
        for _ in range(300):
            chaser, fleer = random_sure_chase(rng)
            flight = reduced_flight(random_flight(rng, fleer[0]))
            left, gone, place = slow_chase(chaser, fleer, flight)
            if rng.random() < 0.3 and left == 0 and gone > 0:
                # Cut off so that the fleer is met just at the end.
                flight = self.cut(flight, gone)
            self.assertEqual(share_left(chaser, fleer, flight), pair(left))
            self.assertTrue(is_fraction(share_left(chaser, fleer, flight)))
            self.assertEqual(met_in(chaser, fleer, flight), (pair(gone), place) if left == 0 else None)
            seen["left" if left else "met"] += 1
            places = catch_places(chaser, fleer)
            if left == 0:
                self.assertTrue(in_hull(spot(place), [spot(corner) for corner in places]))
                self.assertLessEqual(gone, slow_catch_time(chaser, fleer))
            self.assertIs(may_reach(chaser, fleer, (place,)), True)
        self.assertGreater(min(seen.values()), 50, seen)

    def cut(self, flight, until):
        kept = []
        for velocity, time in flight:
            if until > 0:
                kept.append((velocity, pair(min(num(time), until))))
            until -= num(time)
        return tuple(kept)


class Places(unittest.TestCase):
    def test_examples(self):
        self.assertEqual(catch_places(CHASER, FLEER), ((-6, 0, 1), (0, -3, 1), (2, 0, 1), (0, 3, 1)))
        self.assertIs(may_reach(CHASER, FLEER, ((0, 3, 1),)), True)
        self.assertIs(may_reach(CHASER, FLEER, ((1, 2, 1),)), False)

    def test_points_stretches_and_areas(self):
        self.assertEqual(catch_places(CHASER, (STILL, HOME)), (HOME,))
        self.assertEqual(catch_places(CHASER, ((EAST,), HOME)), ((2, 0, 1),))
        self.assertEqual(catch_places(CHASER, (((-1, 0, 1), (1, 0, 1)), HOME)), ((-6, 0, 1), (2, 0, 1)))
        self.assertEqual(catch_places((((-3, 0, 1),), (6, 0, 1)), (STILL, HOME)), (HOME,))
        self.assertEqual(catch_places((((-3, 0, 1), (3, 0, 1)), (6, 0, 1)), (((-1, 0, 1), (1, 0, 1)), HOME)),
                         ((-3, 0, 1), (3, 0, 2)))
        # The fleer moves all the time, and is met on the way from its start to one place.
        self.assertIs(may_reach(CHASER, ((EAST,), HOME), ((1, 0, 1),)), True)
        self.assertIs(may_reach(CHASER, ((EAST,), HOME), ((2, 0, 1),)), True)
        self.assertIs(may_reach(CHASER, ((EAST,), HOME), ((2 * 10 ** 20 + 1, 0, 10 ** 20),)), False)
        self.assertIs(may_reach(CHASER, ((EAST,), HOME), ((-1, 0, 10 ** 20),)), False)

    def test_a_velocity_within_an_edge_matters(self):
        # The closing bends at the heights of the chaser's corners; the fleer is met sooner there than between its ends.
        kinked = ((-2, -1, 1), (0, -3, 1), (2, -3, 1), (2, 3, 1), (0, 3, 1), (-2, 1, 1))
        chaser = (kinked, (4, 0, 1))
        self.assertEqual(catch_places(chaser, (((2, -2, 1), (2, 2, 1)), HOME)),
                         ((2, -1, 1), (8, -8, 3), (8, 8, 3), (2, 1, 1)))
        self.assertEqual(catch_places(chaser, (((0, -2, 1), (0, 2, 1)), HOME)), ((0, -8, 1), (0, 8, 1)))
        fleeing = ((0, -2, 1), (1, -2, 1), (1, 2, 1), (0, 2, 1))
        self.assertEqual(catch_places(chaser, (fleeing, HOME)), ((0, -8, 1), (2, -4, 1), (2, 4, 1), (0, 8, 1)))

    def test_random_ones(self):
        rng = random.Random(2)
        seen = {1: 0, 2: 0, 3: 0, True: 0, False: 0}
        for _ in range(250):
            chaser, fleer = random_sure_chase(rng)
            found = catch_places(chaser, fleer)
            self.assertTrue(is_polygon(found))
            self.assertEqual(found, slow_places(chaser, fleer))
            seen[min(3, len(found))] += 1
            polygon = random_polygon(rng, 3, 6, (1, 1, 2))
            if rng.random() < 0.2:
                polygon = (fleer[1],)
            can = slow_common(slow_hull(found + (fleer[1],)), polygon) is not None
            self.assertIs(may_reach(chaser, fleer, polygon), can)
            seen[can] += 1
        self.assertGreater(min(seen.values()), 15, seen)


CHASER_ROW = ("chaser", CHASER, wrong_given(NOT_MOVER, InvalidMover))
FLEER_ROW = ("fleer", FLEER, wrong_given(NOT_MOVER, InvalidMover))
RIGHT = (EAST, (1, 2))
# A velocity that the fleer does not have is no element of a flight.
NOT_TURN = NOT_TACK + [((1, 1, 1), (1, 1)), ((10 ** 20 + 1, 0, 10 ** 20), (1, 1)), ((0, -2, 1), (1, 1))]
FLIGHT_ROW = ("flight", (RIGHT, (NORTH, (1, 1))), wrong_index(rows_of(NOT_TURN, RIGHT, 12), InvalidFlight))
POLYGON_ROW = ("polygon", BOX, wrong_given(NOT_POLYGON, InvalidPolygon))


class WrongArguments(unittest.TestCase):
    def test_flights(self):
        for call in (share_left, met_in):
            check_arguments(self, call, [CHASER_ROW, FLEER_ROW, FLIGHT_ROW])

    def test_places(self):
        check_arguments(self, catch_places, [CHASER_ROW, FLEER_ROW])
        check_arguments(self, may_reach, [CHASER_ROW, FLEER_ROW, POLYGON_ROW])

    def test_not_sure_comes_last(self):
        sheep = (DIAMOND, (6, 0, 1))
        for call, more in ((share_left, (((EAST, (1, 1)),),)), (met_in, (((EAST, (1, 1)),),)), (catch_places, ()),
                           (may_reach, (BOX,))):
            with self.assertRaises(NotSure) as caught:
                call(sheep, FLEER, *more)
            self.assertIs(type(caught.exception), NotSure)
            self.assertEqual(vars(caught.exception), {})
        # A chaser that cannot go west does not even catch a fleer that lies still there.
        with self.assertRaises(NotSure):
            share_left((WEDGE, (9, 0, 1)), (STILL, HOME), ((HOME, (1, 1)),))
        for wrong, index in ((None, None), ((), None), (((EAST, (1, 1)), None), 1), ((((1, 1, 1), (1, 1)),), 0)):
            for call in (share_left, met_in):
                check_raised(self, InvalidFlight, "index", index, call, sheep, FLEER, wrong)
        check_raised(self, InvalidPolygon, "given", None, may_reach, sheep, FLEER, None)
        check_raised(self, InvalidMover, "given", None, catch_places, sheep, None)
        check_raised(self, InvalidMover, "given", None, share_left, ONE_MOVER, None, None)


if __name__ == "__main__":
    unittest.main()
