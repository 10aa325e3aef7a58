"""[16] and [17]: hours, what is reached in them, the first and the last times, plans."""
import random
import unittest
from fractions import Fraction

from tests.helpers import (NO_TUPLES, NOT_HOUR, NOT_POINT, NOT_POLYGON, NOT_TIME, NOT_WATER, check_arguments,
                           check_raised, in_hull, num, pair, random_point, random_polygon, slow_afloat,
                           slow_after, slow_common, slow_opposite, slow_reached, slow_scaled, slow_sides,
                           slow_sum, spot, wrong_given, wrong_index)
from windfigure.errors import InvalidHours, InvalidPlaces, InvalidPolygon, InvalidTime, InvalidWater
from windfigure.hours import (earliest, hours_back, hours_from, hours_until, is_plan, latest, places_from, plan,
                              reached)
from windfigure.polygons import is_polygon, middle_of

HOME = ((0, 0, 1),)
HALF = ((0, 0, 1), (2, 0, 1), (0, 2, 1))
POND = ((0, 0, 1), (3, 0, 1), (3, 1, 1), (0, 1, 1))
EAST = (((1, 0, 1),), (2, 1))
WEST = (((-1, 0, 1),), (1, 1))
SPREAD = (((0, -1, 1), (0, 1, 1)), (1, 2))
RACE = ((HALF, (1, 1)), EAST)
TWELVE = (EAST, WEST, SPREAD) * 4
LENGTHS = [(1, 1), (2, 1), (1, 2), (3, 2), (2, 3), (1, 7)]


def random_hours(rng, most=4):
    return tuple((random_polygon(rng, rng.choice((1, 2, 4)), 2, (1, 1, 2)), rng.choice(LENGTHS))
                 for _ in range(rng.randint(0, most)))


def random_water(rng):
    if rng.random() < 0.4:
        return None
    return random_polygon(rng, 6, 6, (1, 2))


def random_case(rng, most=4):
    """Half of the goals are one point of what can be reached after some of the hours."""
    water, hours = random_water(rng), random_hours(rng, most)
    start, goal = random_polygon(rng, 3, 2, (1, 2)), random_polygon(rng, 3, 4, (1, 2))
    there = slow_reached(water, hours[:rng.randint(0, len(hours))], start)
    if there is not None and rng.random() < 0.5:
        goal = (rng.choice([there[0], there[-1], middle_of(there)]),)
    return water, hours, start, goal


def whole(hours):
    return sum((num(length) for velocities, length in hours), Fraction(0))


def slow_back(hours):
    return tuple((slow_opposite(velocities), length) for velocities, length in hours[::-1])


def slow_until(hours, time):
    kept = []
    for velocities, length in hours:
        part = min(num(length), time)
        time -= part
        if part > 0:
            kept.append((velocities, pair(part)))
    return tuple(kept)


def times_to_try(velocities, gap):
    """All t at which a corner of t times the velocities is on a line of the gap, or one of the gap on theirs."""
    found = {Fraction(0)}
    for corner in velocities:
        x, y = spot(corner)
        for a, b, h in lines_of(gap):
            if a * x + b * y != 0:
                found.add(h / (a * x + b * y))
    for corner in gap:
        x, y = spot(corner)
        for a, b, h in lines_of(velocities):
            if h != 0:
                found.add((a * x + b * y) / h)
    return sorted(t for t in found if t >= 0)


def lines_of(polygon):
    if len(polygon) == 1:
        x, y = spot(polygon[0])
        return [(1, 0, x), (0, 1, y)]
    if len(polygon) == 2:
        (x, y), (u, v) = map(spot, polygon)
        return [(v - y, x - u, (v - y) * x + (x - u) * y), (1, 0, x), (0, 1, y), (1, 0, u), (0, 1, v)]
    return slow_sides(polygon)


def slow_earliest(water, hours, start, goal):
    aim, here, gone = slow_afloat(water, goal), slow_afloat(water, start), Fraction(0)
    if aim is None or here is None:
        return None
    if slow_common(here, aim) is not None:
        return (0, 1)
    for hour in hours:
        gap = slow_sum(aim, slow_opposite(here))
        for t in times_to_try(hour[0], gap):
            if t <= num(hour[1]) and slow_common(slow_scaled(hour[0], t), gap) is not None:
                return pair(gone + t)
        here = slow_after(water, here, hour)
        if here is None:
            return None
        gone += num(hour[1])
    return None


def meets(polygon, other):
    return polygon is not None and slow_common(polygon, other) is not None


class Reached(unittest.TestCase):
    def test_no_hour(self):
        self.assertEqual(reached(None, (), HALF), HALF)
        self.assertEqual(reached(POND, (), HALF), ((0, 0, 1), (2, 0, 1), (1, 1, 1), (0, 1, 1)))
        self.assertEqual(places_from(POND, (), HALF), ((0, 0, 1), (2, 0, 1), (1, 1, 1), (0, 1, 1)))
        self.assertIsNone(reached(POND, (), ((4, 4, 1),)))
        self.assertIsNone(places_from(POND, (), ((4, 4, 1),)))

    def test_one_hour(self):
        self.assertEqual(reached(None, (EAST,), HALF), ((2, 0, 1), (4, 0, 1), (2, 2, 1)))
        self.assertEqual(reached(None, (SPREAD,), HOME), ((0, -1, 2), (0, 1, 2)))
        self.assertEqual(reached(POND, (SPREAD,), HOME), ((0, 0, 1), (0, 1, 2)))
        self.assertEqual(places_from(None, (EAST,), HALF), ((-2, 0, 1), (0, 0, 1), (-2, 2, 1)))
        self.assertIsNone(reached(POND, (WEST,), HOME))
        self.assertEqual(reached(POND, (WEST,), ((1, 0, 1),)), HOME)

    def test_the_water_is_kept_to_all_the_time(self):
        # There and back is open, but the far place lies beyond the water.
        self.assertEqual(reached(None, (EAST, WEST, WEST), HOME), HOME)
        self.assertIsNone(reached(((0, 0, 1), (1, 0, 1)), (EAST, WEST, WEST), HOME))
        self.assertIsNone(places_from(((0, 0, 1), (1, 0, 1)), (EAST, WEST, WEST), HOME))
        self.assertIsNone(reached(POND, (EAST, EAST, WEST), HOME))

    def test_twelve_hours(self):
        self.assertEqual(reached(None, TWELVE, HOME), ((4, -2, 1), (4, 2, 1)))
        self.assertEqual(reached(None, TWELVE, HOME), slow_reached(None, TWELVE, HOME))

    def test_start_partly_or_wholly_out_of_the_water(self):
        start = ((-1, 0, 1), (1, 0, 1))
        self.assertEqual(reached(POND, (EAST,), start), ((2, 0, 1), (3, 0, 1)))
        self.assertEqual(reached(POND, (), start), ((0, 0, 1), (1, 0, 1)))
        # Only the rim of the water is in it.
        self.assertEqual(reached(POND, (EAST,), ((-1, 0, 1), (0, 0, 1))), ((2, 0, 1),))
        self.assertIsNone(reached(POND, (EAST,), ((-2, 0, 1), (-1, 0, 1))))
        self.assertIsNone(earliest(POND, (EAST,), ((-1, 0, 1),), ((1, 0, 1),)))
        self.assertIsNone(plan(POND, (EAST,), ((-1, 0, 1),), ((1, 0, 1),)))

    def test_random_ones(self):
        rng = random.Random(1)
        some, none = 0, 0
        for _ in range(250):
            water, hours, start, goal = random_case(rng)
            told = reached(water, hours, start)
            self.assertEqual(told, slow_reached(water, hours, start))
            self.assertEqual(places_from(water, hours, goal), slow_reached(water, slow_back(hours), goal))
            self.assertEqual(reached(hours=hours, start=start, water=water), told)
            self.assertIs(meets(told, goal), meets(places_from(water, hours, goal), start))
            some, none = some + (told is not None), none + (told is None)
        self.assertGreater(min(some, none), 40)


class PartsOfHours(unittest.TestCase):
    def test_hours_back(self):
        self.assertEqual(hours_back(()), ())
        self.assertEqual(hours_back(RACE), ((((-1, 0, 1),), (2, 1)), (((-2, 0, 1), (0, -2, 1), (0, 0, 1)), (1, 1))))
        self.assertEqual(hours_back(hours_back(TWELVE)), TWELVE)

    def test_until_and_from(self):
        self.assertEqual(hours_until(RACE, (0, 1)), ())
        self.assertEqual(hours_from(RACE, (0, 1)), RACE)
        self.assertEqual(hours_until(RACE, (3, 1)), RACE)
        self.assertEqual(hours_from(RACE, (3, 1)), ())
        self.assertEqual(hours_until(RACE, (1, 1)), RACE[:1])
        self.assertEqual(hours_from(RACE, (1, 1)), RACE[1:])
        self.assertEqual(hours_until(RACE, (1, 3)), ((HALF, (1, 3)),))
        self.assertEqual(hours_from(RACE, (1, 3)), ((HALF, (2, 3)), EAST))
        self.assertEqual(hours_until(RACE, (8, 3)), (RACE[0], (EAST[0], (5, 3))))
        self.assertEqual(hours_from(RACE, (8, 3)), ((EAST[0], (1, 3)),))
        self.assertEqual([hours_until((), (0, 1)), hours_from((), (0, 1))], [(), ()])

    def test_random_ones(self):
        rng = random.Random(2)
        for _ in range(150):
            hours = random_hours(rng, 6)
            ends = [whole(hours[:k]) for k in range(len(hours) + 1)]
            for time in ends + [whole(hours) * Fraction(rng.randint(0, 30), 30) for _ in range(4)]:
                told = hours_until(hours, pair(time))
                self.assertEqual(told, slow_until(hours, time))
                rest = hours_from(hours, pair(time))
                self.assertEqual(rest, slow_until(hours[::-1], whole(hours) - time)[::-1])
                self.assertEqual(hours_back(hours_until(hours_back(hours), pair(whole(hours) - time))), rest)
                self.assertEqual(whole(told) + whole(rest), whole(hours))

    def test_above_the_sum(self):
        for call in (hours_until, hours_from):
            for hours, time in [((), (1, 1)), ((), (1, 10 ** 30)), (RACE, (4, 1)), (RACE, (3 * 10 ** 30 + 1, 10 ** 30))]:
                check_raised(self, InvalidTime, "given", time, call, hours, time)
                check_raised(self, InvalidTime, "given", time, call, time=time, hours=hours)


class Earliest(unittest.TestCase):
    def test_at_once_at_an_end_within_and_never(self):
        self.assertEqual(earliest(None, RACE, HOME, HALF), (0, 1))
        self.assertEqual(earliest(None, (), HOME, HOME), (0, 1))
        self.assertIsNone(earliest(None, (), HOME, ((1, 0, 1),)))
        self.assertEqual(earliest(None, RACE, HOME, ((1, 1, 1),)), (1, 1))
        self.assertEqual(earliest(None, RACE, HOME, ((2, 1, 1),)), (2, 1))
        self.assertEqual(earliest(None, RACE, HOME, ((2, 2, 1),)), (3, 1))
        self.assertEqual(earliest(None, RACE, HOME, ((1, 0, 1),)), (1, 2))
        self.assertEqual(earliest(None, RACE, HOME, ((4, 0, 1),)), (3, 1))
        self.assertIsNone(earliest(None, RACE, HOME, ((5, 0, 1),)))
        self.assertIsNone(earliest(None, RACE, HOME, ((-1, 0, 10 ** 20),)))

    def test_water(self):
        self.assertEqual(earliest(POND, RACE, HOME, ((3, 1, 1),)), (3, 1))
        self.assertEqual(earliest(((0, 0, 1), (3, 0, 1)), RACE, HOME, ((3, 0, 1),)), (2, 1))
        self.assertIsNone(earliest(POND, RACE, HOME, ((4, 0, 1),)))
        self.assertIsNone(earliest(POND, RACE, HOME, ((0, 2, 1),)))
        # Only what of the goal lies in the water counts.
        slope = ((0, 2, 1), (1, 1, 1))
        self.assertEqual(earliest(POND, ((((0, 2, 1), (1, 1, 1)), (1, 1)),), HOME, slope), (1, 1))
        self.assertIsNone(earliest(POND, ((((0, 2, 1),), (1, 1)),), HOME, slope))

    def test_a_goal_that_is_passed_within_an_hour(self):
        # The velocities do not have nought: the boat cannot wait.
        self.assertEqual(earliest(None, (EAST,), HOME, ((1, 0, 1),)), (1, 1))
        self.assertEqual(earliest(None, (EAST, WEST), HOME, ((1, 0, 1),)), (1, 1))
        self.assertEqual(earliest(None, (EAST,), HOME, ((1, 0, 3), (1, 0, 2))), (1, 3))
        self.assertEqual(earliest(None, ((((1, 1, 1), (2, 1, 1)), (2, 1)),), HOME, ((2, 1, 1),)), (1, 1))
        self.assertIsNone(earliest(None, ((((1, 1, 1), (2, 1, 1)), (2, 1)),), HOME, ((5, 1, 2), (3, 1, 1))))
        self.assertEqual(latest(None, (EAST,), HOME, ((1, 0, 1),)), (1, 1))
        self.assertEqual(latest(None, (EAST, WEST), HOME, ((1, 0, 1),)), (0, 1))
        self.assertEqual(latest(None, (EAST, WEST), HOME, ((0, 0, 1),)), (3, 1))

    def test_random_ones(self):
        rng = random.Random(3)
        kinds = {"none": 0, "at once": 0, "end": 0, "within": 0}
        for _ in range(400):
            water, hours, start, goal = random_case(rng)
            told = earliest(water, hours, start, goal)
            self.assertEqual(told, slow_earliest(water, hours, start, goal))
            self.check_first(water, hours, start, goal, told)
            ends = [whole(hours[:k]) for k in range(1, len(hours) + 1)]
            kind = "none" if told is None else "at once" if told == (0, 1) else "end" if num(told) in ends else "within"
            kinds[kind] += 1
        self.assertGreater(min(kinds.values()), 8, kinds)

    def check_first(self, water, hours, start, goal, told):
        for k in range(9):
            time = whole(hours) * Fraction(k, 8)
            if meets(slow_reached(water, slow_until(hours, time), start), goal):
                self.assertLessEqual(num(told), time)
        if told is not None:
            self.assertTrue(meets(reached(water, hours_until(hours, told), start), goal))
            before = num(told) * Fraction(10 ** 9, 10 ** 9 + 1)
            if before != 0:
                self.assertFalse(meets(reached(water, hours_until(hours, pair(before)), start), goal))

    def test_latest(self):
        rng = random.Random(4)
        some = 0
        for _ in range(250):
            water, hours, start, goal = random_case(rng)
            told = latest(water, hours, start, goal)
            back = earliest(water, hours_back(hours), goal, start)
            self.assertEqual(told, None if back is None else pair(whole(hours) - num(back)))
            for k in range(9):
                time = whole(hours) * Fraction(k, 8)
                if meets(reached(water, hours_from(hours, pair(time)), start), goal):
                    self.assertGreaterEqual(num(told), time)
            if told is not None:
                some += 1
                self.assertTrue(meets(reached(water, hours_from(hours, told), start), goal))
        self.assertGreater(some, 40)


def keeps_to(water, hours, places):
    """Whether these places are a plan, by the hulls of all that an hour gives."""
    if len(places) != len(hours) + 1:
        return False
    if water is not None and not all(in_hull(spot(place), [spot(p) for p in water]) for place in places):
        return False
    for (velocities, length), here, there in zip(hours, places, places[1:]):
        if not in_hull(spot(there), [spot(p) for p in slow_sum((here,), slow_scaled(velocities, num(length)))]):
            return False
    return True


class Plans(unittest.TestCase):
    def test_random_ones(self):
        rng = random.Random(5)
        some = 0
        for _ in range(250):
            water, hours, start, goal = random_case(rng)
            told = plan(water, hours, start, goal)
            if not meets(slow_reached(water, hours, start), goal):
                self.assertIsNone(told)
                continue
            some += 1
            self.assertIs(is_plan(water, hours, told), True)
            self.assertTrue(keeps_to(water, hours, told))
            self.assertTrue(in_hull(spot(told[0]), [spot(p) for p in start]))
            self.assertTrue(in_hull(spot(told[-1]), [spot(p) for p in goal]))
            self.check_spoilt(rng, water, hours, told)
        self.assertGreater(some, 60)

    def check_spoilt(self, rng, water, hours, places):
        for _ in range(4):
            at = rng.randrange(len(places))
            spoilt = places[:at] + slow_sum((places[at],), (random_point(rng, 1),)) + places[at + 1:]
            self.assertIs(is_plan(water, hours, spoilt), keeps_to(water, hours, spoilt))
        self.assertIs(is_plan(water, hours, places[1:]), False)
        self.assertIs(is_plan(water, hours, places + places[-1:]), False)

    def test_too_few_and_too_many_places(self):
        self.assertIs(is_plan(None, RACE, ()), False)
        self.assertIs(is_plan(None, (), ()), False)
        self.assertIs(is_plan(None, (), ((5, 1, 3),)), True)
        self.assertIs(is_plan(POND, (), ((5, 1, 3),)), True)
        self.assertIs(is_plan(POND, (), ((5, -1, 3),)), False)
        self.assertIs(is_plan(None, (), ((0, 0, 1), (0, 0, 1))), False)
        self.assertIs(is_plan(None, RACE, ((0, 0, 1), (1, 1, 1))), False)
        self.assertIs(is_plan(None, RACE, ((0, 0, 1), (1, 1, 1), (3, 1, 1), (3, 1, 1))), False)

    def test_places_in_and_out_of_the_water(self):
        self.assertIs(is_plan(POND, RACE, ((0, 0, 1), (1, 1, 1), (3, 1, 1))), True)
        self.assertIs(is_plan(POND, RACE, ((0, 0, 1), (3, 1, 2), (7, 1, 2))), False)
        self.assertIs(is_plan(None, RACE, ((0, 0, 1), (3, 1, 2), (7, 1, 2))), True)
        self.assertIs(is_plan(POND, RACE, ((-1, 0, 1), (1, 0, 1), (3, 0, 1))), False)
        self.assertIs(is_plan(None, RACE, ((-1, 0, 1), (1, 0, 1), (3, 0, 1))), True)
        self.assertIs(is_plan(None, RACE, ((0, 0, 1), (1, 1, 1), (4, 1, 1))), False)
        self.assertIs(is_plan(None, RACE, ((0, 0, 1), (3, 0, 1), (5, 0, 1))), False)


NOT_HOURS = [(value, None) for value in NO_TUPLES] + [(list(RACE), None), (TWELVE + (EAST,), 12),
                                                     (TWELVE + (None,), 12), (TWELVE + (EAST, None), 12)]
NOT_HOURS += [(RACE[:at] + (wrong,) + RACE[at:], at) for at in range(3) for wrong in NOT_HOUR]
NOT_HOURS += [(TWELVE[:11] + (None,), 11), (TWELVE[:4] + (None,) + TWELVE[:8], 4), ((EAST, None, None), 1)]
WATER = ("water", POND, wrong_given(NOT_WATER, InvalidWater))
HOURS = ("hours", RACE, wrong_index(NOT_HOURS, InvalidHours))
START = ("start", HOME, wrong_given(NOT_POLYGON, InvalidPolygon))
GOAL = ("goal", ((2, 0, 1),), wrong_given(NOT_POLYGON, InvalidPolygon))
TIME = ("time", (3, 2), wrong_given(NOT_TIME + [(7, 2), (10 ** 30, 1)], InvalidTime))
PLACES = ((0, 0, 1), (1, 1, 1), (3, 1, 1))
NOT_PLACES = [(value, None) for value in NO_TUPLES + [list(PLACES)]]
NOT_PLACES += [(PLACES[:at] + (wrong,) + PLACES[at:], at) for at in range(4) for wrong in NOT_POINT]
NOT_PLACES += [((None, (0, 0, 2)), 0), ((PLACES[0],) * 13 + ((0, 0, 2),), 13)]


class WrongArguments(unittest.TestCase):
    def test_reached(self):
        check_arguments(self, reached, [WATER, HOURS, START])
        check_arguments(self, places_from, [WATER, HOURS, GOAL])

    def test_hours(self):
        check_arguments(self, hours_back, [HOURS])
        check_arguments(self, hours_until, [HOURS, TIME])
        check_arguments(self, hours_from, [HOURS, TIME])

    def test_times_and_plans(self):
        for call in (earliest, latest, plan):
            check_arguments(self, call, [WATER, HOURS, START, GOAL])

    def test_is_plan(self):
        check_arguments(self, is_plan, [WATER, HOURS, ("places", PLACES, wrong_index(NOT_PLACES, InvalidPlaces))])

    def test_twelve_are_right(self):
        self.assertTrue(is_polygon(reached(POND, TWELVE[:0], HOME)))
        self.assertEqual(len(hours_back(TWELVE)), 12)
        check_raised(self, InvalidHours, "index", 12, hours_back, TWELVE + (EAST,))


if __name__ == "__main__":
    unittest.main()
