"""[42], [43] and [45]: closings, catch times, best flights, and the bearings along which a fleer is caught."""
import random
import unittest
from fractions import Fraction

from tests.helpers import (NOT_POINT, NOT_POLYGON, check_arguments, check_raised, in_hull, inside_hull, num, pair, pt,
                           random_point, spot, wrong_given, wrong_index)
from tests.slow import SOME_DIRECTIONS, bearing_between, random_chase, slow_catch_time, slow_closing
from tests.wrong import BEAM, BOX, DIAMOND, KITE, NOT_MOVER, ONE_MOVER, WEDGE, WRONG_MOVERS
from windfigure.chase import (answer_to, best_flight, bearing_sides, catch_time, catches_always, closing, first_catcher,
                              is_caught_from)
from windfigure.errors import InvalidMover, InvalidMovers, InvalidPoint, InvalidPolygon, NoBearing, OutOfPolygon
from windfigure.meeting import meeting_times
from windfigure.points import is_fraction, is_point, is_side

HOME, AWAY = (0, 0, 1), (4, 0, 1)
FAST = ((-2, -2, 1), (2, -2, 1), (2, 2, 1), (-2, 2, 1))
CHASER, FLEER = (FAST, (6, 0, 1)), (DIAMOND, HOME)
STILL, EAST = ((0, 0, 1),), ((1, 0, 1),)
ACROSS = ((0, -1, 1), (0, 1, 1))
BEARINGS = [(x, y, 1) for x, y in SOME_DIRECTIONS]


def around(x, y, size):
    """A small box round a point."""
    return tuple(pt(x + s * size, y + t * size) for s, t in ((-1, -1), (1, -1), (1, 1), (-1, 1)))


class Closings(unittest.TestCase):
    def test_above_nought_nought_below_and_none(self):
        self.assertEqual(closing(FAST, (-6, 0, 1), (1, 0, 1)), (1, 2))
        self.assertEqual(closing(FAST, (-6, 0, 1), (-2, 0, 1)), (0, 1))
        self.assertEqual(closing(FAST, (-6, 0, 1), (-2, 2, 1)), (0, 1))
        self.assertEqual(closing(FAST, (-6, 0, 1), (-5, 0, 1)), (-1, 2))
        self.assertEqual(closing(FAST, (-6, 0, 1), (5, 2, 1)), (7, 6))
        self.assertIsNone(closing(FAST, (-6, 0, 1), (1, 3, 1)))
        self.assertIsNone(closing(FAST, (-6, 0, 1), (0, 2 * 10 ** 20 + 1, 10 ** 20)))
        self.assertEqual(closing(FAST, (-6, 0, 1), (0, 2, 1)), (1, 3))
        self.assertEqual(closing(DIAMOND, (1, 1, 1), (0, 1, 1)), (0, 1))
        self.assertEqual(closing(DIAMOND, (1, 1, 1), (0, -1, 1)), (1, 1))
        self.assertEqual(closing(DIAMOND, (1, 1, 1), (2, 1, 1)), (-1, 1))
        self.assertEqual(closing(DIAMOND, (1, -1, 1), (2, 1, 1)), None)

    def test_points_and_stretches(self):
        self.assertEqual(closing(STILL, (2, 2, 1), (-1, -1, 1)), (1, 2))
        self.assertEqual(closing(STILL, (2, 2, 1), (1, 1, 1)), (-1, 2))
        self.assertEqual(closing(STILL, (2, 2, 1), HOME), (0, 1))
        self.assertIsNone(closing(STILL, (2, 2, 1), (1, 0, 1)))
        self.assertEqual(closing(ACROSS, (1, 0, 2), (-1, 1, 1)), (2, 1))
        self.assertIsNone(closing(ACROSS, (1, 0, 2), (-1, 2, 1)))
        self.assertEqual(closing(ACROSS, (0, 1, 1), HOME), (1, 1))
        self.assertEqual(closing(ACROSS, (0, -1, 1), (0, 5, 1)), (6, 1))
        self.assertIsNone(closing(ACROSS, (0, -1, 1), (1, 5, 10 ** 20)))

    def test_random_ones(self):
        rng = random.Random(1)
        seen = {None: 0, -1: 0, 0: 0, 1: 0}
        for _ in range(500):
            (velocities, _), (fleeing, _) = random_chase(rng)
            bearing = rng.choice(BEARINGS) if rng.random() < 0.5 else random_point(rng)
            if bearing == HOME:
                continue
            velocity = rng.choice(fleeing) if rng.random() < 0.7 else random_point(rng)
            found = closing(velocities, bearing, velocity)
            slow = slow_closing(velocities, bearing, velocity)
            seen[slow if slow is None else (slow > 0) - (slow < 0)] += 1
            self.assertEqual(found, None if slow is None else pair(slow))
            if found is not None:
                self.assertTrue(is_fraction(found))
                (u, v), (x, y), spots = spot(velocity), spot(bearing), [spot(corner) for corner in velocities]
                self.assertTrue(in_hull((u + slow * x, v + slow * y), spots))
                more = slow + Fraction(1, 10 ** 6)
                self.assertFalse(in_hull((u + more * x, v + more * y), spots))
            # A stream that is added to both changes nothing.
            s, t = spot(random_point(rng))
            drifting = tuple(pt(u + s, v + t) for u, v in map(spot, velocities))
            u, v = spot(velocity)
            self.assertEqual(closing(drifting, bearing, pt(u + s, v + t)), found)
        self.assertGreater(min(seen.values()), 15, seen)


class CatchTimes(unittest.TestCase):
    def test_examples(self):
        self.assertEqual(catch_time(CHASER, FLEER), (6, 1))
        self.assertEqual(best_flight(CHASER, FLEER), (-1, 0, 1))
        self.assertEqual(answer_to(CHASER, FLEER, (0, 1, 1)), (-2, 1, 1))
        self.assertIsNone(catch_time(FLEER, CHASER))

    def test_at_one_place(self):
        for chaser in (CHASER, (STILL, HOME), (WEDGE, HOME)):
            fleer = (FAST, chaser[1])
            self.assertEqual(catch_time(chaser, fleer), (0, 1))
            self.assertIsNone(best_flight(chaser, fleer))
            self.assertIsNone(answer_to(chaser, fleer, (1, 1, 1)))

    def test_no_closing_above_nought(self):
        # The first corner that has none, whatever those behind it have.
        self.assertEqual(best_flight(FLEER, CHASER), (-2, -2, 1))
        self.assertEqual(best_flight((DIAMOND, HOME), (((-1, 0, 1), (1, 0, 1)), AWAY)), (1, 0, 1))
        self.assertIsNone(catch_time((DIAMOND, HOME), (((-1, 0, 1), (1, 0, 1)), AWAY)))
        self.assertEqual(best_flight((DIAMOND, HOME), (((-1, 0, 1), (1, 1, 1), (0, 2, 1)), AWAY)), (1, 1, 1))
        self.assertEqual(best_flight((DIAMOND, HOME), (((1, -1, 1), (1, 0, 1)), AWAY)), (1, -1, 1))
        self.assertEqual(best_flight((DIAMOND, HOME), (((2, 0, 1),), AWAY)), (2, 0, 1))

    def test_the_least_closing_of_several_the_first(self):
        self.assertEqual(best_flight((FAST, HOME), (BOX, AWAY)), (1, -1, 1))
        self.assertEqual(catch_time((FAST, HOME), (BOX, AWAY)), (4, 1))
        self.assertEqual(best_flight((FAST, AWAY), (BOX, HOME)), (-1, -1, 1))
        self.assertEqual(best_flight((FAST, (0, -3, 1)), (BOX, HOME)), (1, 1, 1))
        self.assertEqual(catch_time((FAST, HOME), (STILL, AWAY)), (2, 1))
        self.assertEqual(catch_time((((-1, 0, 1), (9, 0, 1)), HOME), (((0, 0, 1), (7, 0, 1)), AWAY)), (2, 1))
        # A chaser that cannot lie still, and a fleer with one velocity.
        self.assertEqual(catch_time((((3, 0, 1),), HOME), (EAST, AWAY)), (2, 1))
        self.assertIsNone(catch_time((((3, 0, 1),), HOME), (((1, 0, 1), (10 ** 20, 1, 10 ** 20)), AWAY)))

    def test_answers(self):
        self.assertEqual(answer_to((FAST, HOME), (BOX, AWAY), (1, 1, 1)), (2, 1, 1))
        self.assertEqual(answer_to((FAST, HOME), (BOX, AWAY), (-1, 0, 1)), (2, 0, 1))
        self.assertEqual(answer_to((KITE, HOME), (BEAM, (2, 0, 1)), (0, 1, 1)), (2, 1, 1))
        self.assertIsNone(answer_to((DIAMOND, HOME), (BOX, AWAY), (1, 0, 1)))
        self.assertEqual(answer_to((DIAMOND, HOME), (BOX, AWAY), (-1, -1, 1)), (0, -1, 1))
        self.assertEqual(answer_to((DIAMOND, HOME), (BOX, AWAY), (-1, 0, 1)), (1, 0, 1))

    def test_random_ones(self):
        rng = random.Random(2)
        seen = {"same": 0, "caught": 0, "not": 0}
        for _ in range(500):
            chaser, fleer = random_chase(rng)
            slow, bearing = slow_catch_time(chaser, fleer), bearing_between(chaser, fleer)
            found = catch_time(chaser, fleer)
            self.assertEqual(found, None if slow is None else pair(slow))
            flight = best_flight(chaser, fleer)
            velocity = self.some_velocity(rng, fleer[0])
            answer = answer_to(chaser, fleer, velocity)
            if bearing == HOME:
                seen["same"] += 1
                self.assertEqual((found, flight, answer), ((0, 1), None, None))
                continue
            closings = [slow_closing(chaser[0], bearing, corner) for corner in fleer[0]]
            self.assertIs(is_caught_from(chaser[0], fleer[0], bearing), found is not None)
            if found is None:
                seen["not"] += 1
                self.assertEqual(flight, next(corner for corner, number in zip(fleer[0], closings)
                                              if number is None or number <= 0))
            else:
                seen["caught"] += 1
                self.assertEqual(flight, fleer[0][closings.index(min(closings))])
                # By one velocity all the time the fleer is met no later than so, and by some only then.
                waits = [meeting_times(chaser, ((corner,), fleer[1]))[0] for corner in fleer[0]]
                self.assertEqual(max(map(num, waits)), slow)
            self.check_answer(chaser, bearing, velocity, answer)
        self.assertGreater(min(seen.values()), 30, seen)

    def some_velocity(self, rng, fleeing):
        """A velocity of the fleer's: a corner, on the rim, or inside."""
        (x, y), (u, v) = spot(rng.choice(fleeing)), spot(rng.choice(fleeing))
        share = rng.choice((Fraction(0), Fraction(1, 2), Fraction(1, 3)))
        x, y = x + share * (u - x), y + share * (v - y)
        s, t = spot(rng.choice(fleeing))
        share = rng.choice((Fraction(0), Fraction(1, 4)))
        return pt(x + share * (s - x), y + share * (t - y))

    def check_answer(self, chaser, bearing, velocity, answer):
        slow = slow_closing(chaser[0], bearing, velocity)
        if slow is None or slow <= 0:
            self.assertIsNone(answer)
        else:
            (x, y), (u, v) = spot(velocity), spot(bearing)
            self.assertEqual(answer, pt(x + slow * u, y + slow * v))
            self.assertTrue(is_point(answer))


class Bearings(unittest.TestCase):
    def check_sides(self, velocities, fleeing):
        """The sides hold just the bearings along which a fleer is caught; how many of these there are."""
        sides = bearing_sides(velocities, fleeing)
        self.assertIsInstance(sides, tuple)
        self.assertTrue(all(is_side(side) and side[2] == 0 for side in sides))
        tried = list(BEARINGS)
        # The sides' own lines, and the ways to all corners from all corners, are where it turns.
        for (x, y) in [(-b, a) for a, b, h in sides] + [(u - x, v - y) for x, y in map(spot, fleeing)
                                                        for u, v in map(spot, velocities)]:
            tried += [pt(s * x + t * y, s * y - t * x) for s in (-1, 1) for t in (-Fraction(1, 999), 0, Fraction(1, 999))]
        tried = [bearing for bearing in tried if bearing != HOME]
        caught = 0
        for bearing in tried:
            held = all(a * bearing[0] + b * bearing[1] <= 0 for a, b, h in sides)
            self.assertIs(is_caught_from(velocities, fleeing, bearing), held)
            closings = [slow_closing(velocities, bearing, corner) for corner in fleeing]
            self.assertIs(held, None not in closings and min(closings) > 0)
            caught += held
        self.assertIs(sides == (), catches_always(velocities, fleeing))
        self.assertIs(catches_always(velocities, fleeing), caught == len(tried))
        return "all" if caught == len(tried) else "some" if caught else "none"

    def test_examples(self):
        self.assertIs(catches_always(FAST, DIAMOND), True)
        self.assertIs(catches_always(DIAMOND, DIAMOND), False)
        self.assertIs(is_caught_from(DIAMOND, DIAMOND, (1, 0, 1)), False)
        self.assertEqual(bearing_sides(FAST, DIAMOND), ())

    def test_corners_on_the_rim_at_corners_and_outside(self):
        # On an edge a half plane is left, at a corner the wedge there, outside what is seen.
        self.assertEqual(bearing_sides(FAST, ((0, 0, 1), (2, 0, 1))), ((1, 0, 0),))
        self.assertEqual(set(bearing_sides(FAST, ((2, 2, 1),))), {(1, 0, 0), (0, 1, 0)})
        self.assertEqual(set(bearing_sides(FAST, ((6, 0, 1),))), {(1, 2, 0), (1, -2, 0)})
        for velocities, fleeing, word in (
                (FAST, ((0, 0, 1), (2, 0, 1)), "some"), (FAST, ((2, 2, 1),), "some"), (FAST, ((6, 0, 1),), "some"),
                (FAST, ((-2, 0, 1), (2, 0, 1)), "some"), (FAST, ((-2, -2, 1), (2, 2, 1)), "none"),
                (FAST, FAST, "none"), (FAST, ((-3, 0, 1), (3, 0, 1)), "none"), (FAST, around(0, 0, 1), "all"),
                (FAST, around(0, 0, 3), "none"), (FAST, around(9, 0, 1), "some"), (FAST, STILL, "all"),
                (WEDGE, STILL, "some"), (BEAM, STILL, "some"), (BEAM, BEAM, "none")):
            self.assertEqual(self.check_sides(velocities, fleeing), word)

    def test_points_and_stretches(self):
        for velocities, fleeing, word in (
                (STILL, STILL, "none"), (STILL, EAST, "some"), (STILL, ((1, 0, 1), (2, 0, 1)), "some"),
                (STILL, ((-1, 0, 1), (1, 0, 1)), "none"), (STILL, ((1, 0, 1), (2, 1, 1)), "none"),
                (ACROSS, STILL, "some"), (ACROSS, ACROSS, "none"), (ACROSS, ((0, 1, 1),), "some"),
                (ACROSS, ((0, 2, 1),), "some"), (ACROSS, EAST, "some"), (ACROSS, ((0, 0, 1), (0, 1, 1)), "some"),
                (ACROSS, ((0, -1, 2), (0, 1, 2)), "some"), (ACROSS, ((-1, 0, 1), (1, 0, 1)), "none")):
            self.assertEqual(self.check_sides(velocities, fleeing), word)
        self.assertEqual(set(bearing_sides(ACROSS, STILL)), {(1, 0, 0), (-1, 0, 0)})

    def test_a_corner_that_is_hardly_within(self):
        self.assertIs(catches_always(FAST, ((0, 0, 1), (2 * 10 ** 20 - 1, 0, 10 ** 20))), True)
        self.assertIs(catches_always(FAST, ((0, 0, 1), (2 * 10 ** 20 + 1, 0, 10 ** 20))), False)
        self.assertIs(is_caught_from(FAST, ((2, 0, 1),), (0, 1, 1)), True)
        self.assertIs(is_caught_from(FAST, ((2, 0, 1),), (1, 10 ** 20, 1)), False)

    def test_random_ones(self):
        rng = random.Random(3)
        seen = {"all": 0, "some": 0, "none": 0}
        for _ in range(250):
            (velocities, _), (fleeing, _) = random_chase(rng)
            word = self.check_sides(velocities, fleeing)
            seen[word] += 1
            spots = [spot(corner) for corner in velocities]
            self.assertIs(word == "all", all(inside_hull(spot(corner), spots) for corner in fleeing))
        self.assertGreater(min(seen.values()), 25, seen)


class Catchers(unittest.TestCase):
    def test_example(self):
        self.assertEqual(first_catcher((CHASER, (FAST, (-3, 0, 1))), FLEER), ((3, 1), 1))

    def test_one_to_six(self):
        slow, later = (BOX, (1, 0, 1)), (FAST, (-7, 0, 1))
        self.assertIsNone(first_catcher((slow,), FLEER))
        self.assertIsNone(first_catcher((slow,) * 6, FLEER))
        self.assertEqual(first_catcher((CHASER,), FLEER), ((6, 1), 0))
        self.assertEqual(first_catcher((slow, later, CHASER, CHASER, later, slow), FLEER), ((6, 1), 2))
        self.assertEqual(first_catcher((later, slow, slow, slow, slow, CHASER), FLEER), ((6, 1), 5))
        # At the place of the fleer no velocity is needed.
        self.assertEqual(first_catcher((CHASER, (STILL, HOME), (FAST, HOME)), FLEER), ((0, 1), 1))
        check_raised(self, InvalidMovers, "index", 6, first_catcher, (CHASER,) * 7, FLEER)

    def test_random_ones(self):
        rng = random.Random(4)
        seen = {True: 0, False: 0}
        for _ in range(100):
            pairs = [random_chase(rng) for _ in range(rng.randint(1, 6))]
            fleer = pairs[0][1]
            chasers = tuple(chaser for chaser, other in pairs)
            times = [slow_catch_time(chaser, fleer) for chaser in chasers]
            some = [time for time in times if time is not None]
            seen[some == []] += 1
            self.assertEqual(first_catcher(chasers, fleer),
                             (pair(min(some)), times.index(min(some))) if some else None)
        self.assertGreater(min(seen.values()), 15, seen)


VELOCITIES_ROW = ("velocities", FAST, wrong_given(NOT_POLYGON, InvalidPolygon))
FLEEING_ROW = ("fleeing", DIAMOND, wrong_given(NOT_POLYGON, InvalidPolygon))
BEARING_ROW = ("bearing", (1, 2, 3), wrong_given(NOT_POINT, InvalidPoint) + wrong_given([HOME], NoBearing))
CHASER_ROW = ("chaser", CHASER, wrong_given(NOT_MOVER, InvalidMover))
FLEER_ROW = ("fleer", FLEER, wrong_given(NOT_MOVER, InvalidMover))


class WrongArguments(unittest.TestCase):
    def test_closings(self):
        check_arguments(self, closing, [VELOCITIES_ROW, BEARING_ROW, (
            "velocity", (1, 2, 3), wrong_given(NOT_POINT, InvalidPoint))])

    def test_bearings(self):
        check_arguments(self, is_caught_from, [VELOCITIES_ROW, FLEEING_ROW, BEARING_ROW])
        for call in (catches_always, bearing_sides):
            check_arguments(self, call, [VELOCITIES_ROW, FLEEING_ROW])

    def test_chases(self):
        for call in (catch_time, best_flight):
            check_arguments(self, call, [CHASER_ROW, FLEER_ROW])
        check_arguments(self, first_catcher, [
            ("chasers", (ONE_MOVER, CHASER), wrong_index(WRONG_MOVERS, InvalidMovers)), FLEER_ROW])

    def test_answers(self):
        outside = [(1, 1, 1), (-2, 0, 1), (10 ** 20 + 1, 0, 10 ** 20), (1, -1, 1)]
        wrongs = wrong_given(NOT_POINT, InvalidPoint) + wrong_given(outside, OutOfPolygon)
        check_arguments(self, answer_to, [CHASER_ROW, FLEER_ROW, ("velocity", (0, 1, 1), wrongs)])
        # Also where there is no answer.
        check_raised(self, OutOfPolygon, "given", (1, 1, 1), answer_to, FLEER, FLEER, (1, 1, 1))
        check_raised(self, OutOfPolygon, "given", (1, 0, 1), answer_to, FLEER, (STILL, AWAY), (1, 0, 1))


if __name__ == "__main__":
    unittest.main()
