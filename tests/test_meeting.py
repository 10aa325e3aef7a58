"""[42] and [46]: movers, and when and where two of them can be at one place."""
import random
import unittest
from fractions import Fraction

from tests.helpers import (NOT_TIME, check_arguments, num, pair, pt, random_point, random_polygon, slow_common,
                           slow_hull, slow_opposite, slow_sum, spot, wrong_given)
from tests.wrong import BOX, DIAMOND, NOT_MOVER, ONE_MOVER, WEDGE
from windfigure.errors import InvalidMover, InvalidTime
from windfigure.meeting import is_mover, meeting_places, meeting_times
from windfigure.points import is_time

HOME, AWAY = (0, 0, 1), (4, 0, 1)
HERE, THERE = (DIAMOND, HOME), (DIAMOND, AWAY)
EAST, WEST = ((1, 0, 1),), ((-1, 0, 1),)
STILL = ((0, 0, 1),)
# From half a mile to two miles an hour to the east.
ALONG = ((1, 0, 2), (2, 0, 1))
AHEAD = ((1, -1, 1), (3, 0, 1), (1, 1, 1))


def slow_can_meet(mover, other, time):
    """Whether both can be at one place after so many hours."""
    return slow_meeting(mover, other, time) is not None


def slow_meeting(mover, other, time):
    after = []
    for velocities, start in (mover, other):
        x, y = spot(start)
        after.append(slow_hull([pt(x + time * u, y + time * v) for u, v in map(spot, velocities)]))
    return slow_common(*after)


def random_mover(rng):
    return (random_polygon(rng, rng.choice((1, 2, 5)), 2, (1, 1, 2)), random_point(rng, 3, (1, 1, 2)))


class Movers(unittest.TestCase):
    def test_movers(self):
        for velocities in (STILL, EAST, ALONG, AHEAD, BOX, WEDGE):
            for start in (HOME, (1, 2, 3), (-10 ** 40, 1, 7)):
                self.assertIs(is_mover((velocities, start)), True)
                self.assertIs(is_mover(value=(velocities, start)), True)

    def test_no_movers(self):
        for value in NOT_MOVER:
            self.assertIs(is_mover(value), False)


class Times(unittest.TestCase):
    def test_examples(self):
        self.assertEqual(meeting_times(HERE, THERE), ((2, 1), None))
        self.assertEqual(meeting_places(HERE, THERE, (2, 1)), ((2, 0, 1),))
        self.assertEqual(meeting_places(HERE, THERE, (3, 1)), ((1, 0, 1), (2, -1, 1), (3, 0, 1), (2, 1, 1)))
        self.assertIsNone(meeting_places(HERE, THERE, (1, 1)))

    def test_both_ends_one_moment_and_none(self):
        # A stretch of velocities without nought passes a place that lies still for some time.
        self.assertEqual(meeting_times((ALONG, HOME), (STILL, AWAY)), ((2, 1), (8, 1)))
        self.assertEqual(meeting_times((STILL, AWAY), (ALONG, HOME)), ((2, 1), (8, 1)))
        self.assertEqual(meeting_times((EAST, HOME), (STILL, AWAY)), ((4, 1), (4, 1)))
        self.assertEqual(meeting_times((EAST, HOME), (WEST, AWAY)), ((2, 1), (2, 1)))
        self.assertEqual(meeting_times((AHEAD, HOME), (STILL, AWAY)), ((4, 3), (4, 1)))
        self.assertIsNone(meeting_times((EAST, AWAY), (STILL, HOME)))
        self.assertIsNone(meeting_times((AHEAD, AWAY), (EAST, HOME)))
        self.assertIsNone(meeting_times((EAST, HOME), (EAST, AWAY)))
        self.assertIsNone(meeting_times((EAST, HOME), (STILL, (4, 1, 10 ** 20))))
        self.assertIsNone(meeting_times((STILL, HOME), (STILL, AWAY)))
        # Nought is a corner, lies on a side, or within: then no time is too long.
        self.assertEqual(meeting_times((WEDGE, HOME), (STILL, AWAY)), ((4, 1), None))
        self.assertEqual(meeting_times((BOX, HOME), (STILL, (-3, 2, 1))), ((3, 1), None))
        self.assertEqual(meeting_times((ALONG, HOME), (ALONG, AWAY)), ((8, 3), None))
        self.assertIsNone(meeting_times((WEDGE, AWAY), (STILL, HOME)))

    def test_the_same_start(self):
        for velocities, last in ((STILL, None), (WEDGE, None), (BOX, None), (EAST, (0, 1)), (ALONG, (0, 1)),
                                 (AHEAD, (0, 1))):
            self.assertEqual(meeting_times((velocities, (1, 2, 3)), (STILL, (1, 2, 3))), ((0, 1), last))
            self.assertEqual(meeting_places((velocities, (1, 2, 3)), (STILL, (1, 2, 3)), (0, 1)), ((1, 2, 3),))
        self.assertEqual(meeting_times((EAST, HOME), (ALONG, HOME)), ((0, 1), None))
        self.assertEqual(meeting_times((EAST, HOME), (WEST, HOME)), ((0, 1), (0, 1)))
        self.assertIsNone(meeting_places((EAST, HOME), (WEST, HOME), (1, 10 ** 20)))

    def test_places_at_the_first_and_the_last_time(self):
        mover, other = (AHEAD, HOME), (STILL, AWAY)
        self.assertEqual(meeting_places(mover, other, (4, 3)), (AWAY,))
        self.assertEqual(meeting_places(mover, other, (4, 1)), (AWAY,))
        self.assertEqual(meeting_places(mover, other, (2, 1)), (AWAY,))
        self.assertIsNone(meeting_places(mover, other, (399997, 300000)))
        self.assertIsNone(meeting_places(mover, other, (400001, 100000)))
        self.assertIsNone(meeting_places(mover, other, (0, 1)))
        self.assertEqual(meeting_places((BOX, HOME), (BOX, (2, 0, 1)), (1, 1)), ((1, -1, 1), (1, 1, 1)))

    def test_random_ones(self):
        rng = random.Random(1)
        seen = {"none": 0, "endless": 0, "ends": 0, "moment": 0}
        for _ in range(400):
            mover, other = random_mover(rng), random_mover(rng)
            if rng.random() < 0.3:
                # Straight on a course to each other.
                (x, y), (u, v) = spot(mover[1]), spot(rng.choice(mover[0]))
                s, t = spot(rng.choice(other[0]))
                other = (other[0], pt(x + 2 * (u - s), y + 2 * (v - t)))
            found = meeting_times(mover, other)
            tried = [Fraction(rng.randint(0, 40), 10) for _ in range(4)] + [Fraction(0), Fraction(50)]
            if found is None:
                seen["none"] += 1
                self.assertFalse(any(slow_can_meet(mover, other, time) for time in tried))
                self.check_none(mover, other)
                continue
            low, high = found
            self.assertTrue(is_time(low) and (high is None or is_time(high)))
            low, high = num(low), None if high is None else num(high)
            seen["endless" if high is None else "moment" if low == high else "ends"] += 1
            step = Fraction(1, 10 ** 6)
            tried += [low, low - step, low + step] + ([] if high is None else [high, high - step, high + step])
            for time in tried:
                if time >= 0:
                    can = low <= time and (high is None or time <= high)
                    self.assertIs(slow_can_meet(mover, other, time), can)
                    self.assertEqual(meeting_places(mover, other, pair(time)), slow_meeting(mover, other, time))
            self.assertEqual(meeting_times(other, mover), found)
        self.assertGreater(min(seen.values()), 10, seen)

    def check_none(self, mover, other):
        """The ray along the way leads to no velocity with which one comes closer to the other one."""
        (x, y), (u, v) = spot(mover[1]), spot(other[1])
        self.assertNotEqual((x, y), (u, v))
        ray = slow_hull([HOME, pt(10 ** 6 * (u - x), 10 ** 6 * (v - y))])
        self.assertIn(slow_common(slow_sum(mover[0], slow_opposite(other[0])), ray), (None, STILL))


MOVER_ROW = ("mover", ONE_MOVER, wrong_given(NOT_MOVER, InvalidMover))
OTHER_ROW = ("other", HERE, wrong_given(NOT_MOVER, InvalidMover))


class WrongArguments(unittest.TestCase):
    def test_all(self):
        check_arguments(self, meeting_times, [MOVER_ROW, OTHER_ROW])
        check_arguments(self, meeting_places, [MOVER_ROW, OTHER_ROW, (
            "time", (3, 2), wrong_given(NOT_TIME, InvalidTime))])


if __name__ == "__main__":
    unittest.main()
