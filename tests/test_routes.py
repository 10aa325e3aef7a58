"""[28] and [29]: routes round isles, the soonest times, and the heights that tell them."""
import random
import unittest
from fractions import Fraction

from tests.helpers import (ISLE, NO_TUPLES, NOT_FIGURE, NOT_POINT, NOT_TIME, ROW, check_arguments, check_raised,
                           not_isles, num, pair, random_figure, random_isles, random_outside, slow_free, slow_soonest,
                           slow_table, slow_way_time, told_time, wrong_given, wrong_index)
from windfigure.errors import InIsle, InvalidFigure, InvalidHeights, InvalidIsles, InvalidPoint, InvalidRoute
from windfigure.isles import corners_of
from windfigure.routes import (are_kept, heights_tell, holding_up, route_time, soonest_route, soonest_time, times_from,
                               times_to)

DIAMOND = ((-1, 0, 1), (0, -1, 1), (1, 0, 1), (0, 1, 1))
BOX = ((-1, -1, 1), (1, -1, 1), (1, 1, 1), (-1, 1, 1))
# It cannot go to the west.
RUNNER = ((0, -1, 1), (1, 0, 1), (0, 1, 1))
# It only goes to the east and the north.
WEDGE = ((0, 0, 1), (1, 0, 1), (0, 1, 1))
TACKER = ((-1, 0, 1), (1, -2, 1), (1, 2, 1))
FIGURES = [DIAMOND, BOX, RUNNER, WEDGE, TACKER]
HOME, AWAY = (0, 0, 1), (4, 0, 1)
ISLES = (ISLE,)
WALL = (((1, -5, 1), (2, -5, 1), (2, 5, 1), (1, 5, 1)),)


def random_case(rng, most=3):
    isles = random_isles(rng, most, 3)
    figure = rng.choice(FIGURES) if rng.random() < 0.5 else random_figure(rng)
    start, goal = random_outside(rng, isles, 5), random_outside(rng, isles, 5)
    if rng.random() < 0.1:
        goal = start
    return figure, isles, start, goal


def slow_route_time(figure, isles, route):
    total = Fraction(0)
    for here, there in zip(route, route[1:]):
        time = slow_way_time(figure, here, there)
        if time is None or not slow_free(isles, here, there):
            return None
        total += time
    return total


class RouteTimes(unittest.TestCase):
    def test_one_point(self):
        self.assertEqual(route_time(DIAMOND, ISLES, (HOME,)), (0, 1))
        self.assertEqual(route_time(DIAMOND, ISLES, ((2, 2, 1),)), (0, 1))
        # A route of one point has no legs, so that none is not free.
        self.assertEqual(route_time(DIAMOND, ISLES, ((2, 0, 1),)), (0, 1))
        self.assertIsNone(route_time(DIAMOND, ISLES, ((2, 0, 1), (2, 0, 1))))

    def test_legs_that_are_not_free_or_endless(self):
        self.assertEqual(route_time(DIAMOND, ISLES, (HOME, (2, 2, 1), AWAY)), (8, 1))
        self.assertIsNone(route_time(DIAMOND, ISLES, (HOME, AWAY)))
        self.assertEqual(route_time(DIAMOND, (), (HOME, AWAY)), (4, 1))
        self.assertIsNone(route_time(WEDGE, (), (HOME, AWAY, HOME)))
        self.assertIsNone(route_time(WEDGE, (), (AWAY, HOME)))
        self.assertEqual(route_time(WEDGE, (), (HOME, (0, 3, 2), (1, 5, 2))), (3, 1))
        self.assertEqual(route_time(DIAMOND, ISLES, (HOME, HOME, (1, -1, 1), (3, -1, 1), (3, -1, 1))), (4, 1))

    def test_forty_points(self):
        route = tuple((k, k % 2, 3) for k in range(-20, 20))
        route = tuple((x, y, w) if x % 3 or y % 3 else (x // 3, y // 3, 1) for x, y, w in route)
        self.assertEqual(len(route), 40)
        self.assertEqual(route_time(DIAMOND, (), route), (26, 1))
        check_raised(self, InvalidRoute, "index", 40, route_time, DIAMOND, (), route + (HOME,))

    def test_random_ones(self):
        rng = random.Random(1)
        some, none = 0, 0
        for _ in range(250):
            figure, isles, start, goal = random_case(rng)
            route = (start,) + tuple(random_outside(rng, isles, 5) for _ in range(rng.randint(0, 2))) + (goal,)
            slow = slow_route_time(figure, isles, route)
            self.assertEqual(route_time(figure, isles, route), told_time(slow))
            some, none = some + (slow is not None), none + (slow is None)
        self.assertGreater(min(some, none), 40)


class Soonest(unittest.TestCase):
    def test_with_and_without_isles(self):
        self.assertEqual(soonest_time(DIAMOND, ISLES, HOME, AWAY), (6, 1))
        self.assertEqual(soonest_time(BOX, ISLES, HOME, AWAY), (4, 1))
        self.assertEqual(soonest_time(DIAMOND, (), HOME, AWAY), (4, 1))
        self.assertEqual(soonest_route(DIAMOND, ISLES, HOME, AWAY), (HOME, (1, -1, 1), (3, -1, 1), AWAY))
        self.assertEqual(soonest_route(DIAMOND, (), HOME, AWAY), (HOME, AWAY))

    def test_to_itself(self):
        for isles in ((), ISLES, ROW):
            for place in (HOME, (1, -1, 1), (2, -1, 1), (5, 3, 7)):
                for figure in FIGURES:
                    self.assertEqual(soonest_time(figure, isles, place, place), (0, 1))
                    self.assertEqual(soonest_route(figure, isles, place, place), (place,))
                    self.assertEqual(holding_up(figure, isles, place, place), ())

    def test_between_corners_and_on_rims(self):
        self.assertEqual(soonest_time(DIAMOND, ISLES, (1, -1, 1), (3, -1, 1)), (2, 1))
        self.assertEqual(soonest_route(DIAMOND, ISLES, (1, -1, 1), (3, -1, 1)), ((1, -1, 1), (3, -1, 1)))
        self.assertEqual(soonest_time(DIAMOND, ISLES, (2, -1, 1), (2, 2, 1)), (5, 1))
        self.assertEqual(soonest_time(DIAMOND, ISLES, (2, 2, 1), (2, -1, 1)), (5, 1))

    def test_endless_ones(self):
        self.assertIsNone(soonest_time(WEDGE, (), AWAY, HOME))
        self.assertIsNone(soonest_route(WEDGE, (), AWAY, HOME))
        self.assertIsNone(soonest_time(RUNNER, WALL, AWAY, HOME))
        self.assertEqual(soonest_time(RUNNER, WALL, HOME, AWAY), (14, 1))
        # To the north it gets round, but from there not back to the south.
        self.assertIsNone(soonest_time(WEDGE, WALL, HOME, AWAY))
        self.assertIsNone(soonest_route(WEDGE, WALL, HOME, AWAY))
        self.assertEqual(holding_up(WEDGE, WALL, HOME, AWAY), (0,))
        self.assertEqual(soonest_time(WEDGE, WALL, HOME, (4, 5, 1)), (9, 1))
        self.assertEqual(times_from(WEDGE, WALL, HOME), (None, None, (7, 1), (6, 1)))
        self.assertEqual(times_to(WEDGE, WALL, AWAY), ((8, 1), (7, 1), None, None))

    def test_random_ones(self):
        rng = random.Random(2)
        kinds = {"none": 0, "straight": 0, "round": 0}
        for _ in range(250):
            figure, isles, start, goal = random_case(rng)
            slow = slow_soonest(figure, isles, start, goal)
            self.assertEqual(soonest_time(figure, isles, start, goal), told_time(slow))
            route = soonest_route(figure, isles, start, goal)
            if slow is None:
                self.assertIsNone(route)
                kinds["none"] += 1
                continue
            self.check_route(figure, isles, start, goal, route, slow)
            kinds["straight" if len(route) < 3 else "round"] += 1
        self.assertGreater(min(kinds.values()), 20, kinds)

    def check_route(self, figure, isles, start, goal, route, time):
        self.assertIsInstance(route, tuple)
        self.assertEqual((route[0], route[-1]), (start, goal))
        if start == goal:
            self.assertEqual(route, (start,))
        self.assertEqual(slow_route_time(figure, isles, route), time)
        self.assertEqual(route_time(figure, isles, route), pair(time))
        between = route[1:-1]
        self.assertTrue(all(point in corners_of(isles) for point in between))
        self.assertEqual(len(set(route)), len(route))

    def test_no_route_is_sooner(self):
        rng = random.Random(3)
        for _ in range(150):
            figure, isles, start, goal = random_case(rng)
            middle = tuple(random_outside(rng, isles, 4) for _ in range(rng.randint(1, 3)))
            slow = slow_route_time(figure, isles, (start,) + middle + (goal,))
            if slow is not None:
                self.assertLessEqual(num(soonest_time(figure, isles, start, goal)), slow)

    def test_six_isles(self):
        start, goal = (39, 1, 4), (65, 1, 4)
        self.assertEqual(soonest_time(DIAMOND, ROW, start, goal), told_time(slow_soonest(DIAMOND, ROW, start, goal)))
        self.assertEqual(len(times_from(DIAMOND, ROW, start)), 18)
        self.assertEqual(holding_up(DIAMOND, ROW, start, goal), ())

    def test_times_from_and_to(self):
        self.assertEqual(times_from(DIAMOND, ISLES, HOME), ((2, 1), (4, 1), (4, 1)))
        self.assertEqual(times_to(DIAMOND, ISLES, AWAY), ((4, 1), (2, 1), (4, 1)))
        self.assertEqual([times_from(DIAMOND, (), HOME), times_to(DIAMOND, (), HOME)], [(), ()])
        rng = random.Random(4)
        for _ in range(100):
            figure, isles, start, goal = random_case(rng)
            table = slow_table(figure, isles, (start,) + corners_of(isles) + (goal,))
            self.assertEqual(times_from(figure, isles, start), tuple(told_time(t) for t in table[0][1:-1]))
            self.assertEqual(times_to(figure, isles, goal), tuple(told_time(row[-1]) for row in table[1:-1]))
            for corner, time in zip(corners_of(isles), times_from(figure, isles, start)):
                self.assertEqual(soonest_time(figure, isles, start, corner), time)
            for corner, time in zip(corners_of(isles), times_to(figure, isles, goal)):
                self.assertEqual(soonest_time(figure, isles, corner, goal), time)

    def test_holding_up(self):
        self.assertEqual(holding_up(DIAMOND, ISLES, HOME, AWAY), (0,))
        self.assertEqual(holding_up(BOX, ISLES, HOME, AWAY), ())
        self.assertEqual(holding_up(DIAMOND, (), HOME, AWAY), ())
        # Both are in the way, but each one alone as well: without one of them nothing is gained.
        both = WALL + (((-3, -5, 1), (-2, -5, 1), (-2, 5, 1), (-3, 5, 1)),)
        self.assertEqual(holding_up(DIAMOND, both, (-5, 0, 1), AWAY), ())
        self.assertEqual(holding_up(DIAMOND, both, (-1, 0, 1), AWAY), (0,))
        rng = random.Random(5)
        found = {}
        for _ in range(120):
            figure, isles, start, goal = random_case(rng, 4)
            whole = slow_soonest(figure, isles, start, goal)
            slow = []
            for k in range(len(isles)):
                less = slow_soonest(figure, isles[:k] + isles[k + 1:], start, goal)
                if less is not None and (whole is None or less < whole):
                    slow.append(k)
            self.assertEqual(holding_up(figure, isles, start, goal), tuple(slow))
            found[len(slow)] = found.get(len(slow), 0) + 1
        self.assertGreater(found[1], 5)


def random_heights(rng, soonest):
    """Heights near the soonest times, mostly somewhat lower."""
    found = []
    for time in soonest:
        if rng.random() < 0.1:
            found.append(None)
        elif time is None or rng.random() < 0.2:
            found.append(rng.choice([None, (0, 1), (7, 3)]))
        else:
            found.append(pair(max(Fraction(0), num(time) + Fraction(rng.randint(-3, 1), 4))))
    return tuple(found)


def at_most(one, two):
    return two is None or (one is not None and one <= two)


def time_plus(one, two):
    return None if one is None or two is None else one + two


def slow_kept(figure, isles, start, heights):
    corners = corners_of(isles)
    values = [None if height is None else num(height) for height in heights]
    for k, corner in enumerate(corners):
        if slow_free(isles, start, corner) and not at_most(values[k], slow_way_time(figure, start, corner)):
            return False
        for j, other in enumerate(corners):
            if j != k and slow_free(isles, other, corner):
                if not at_most(values[k], time_plus(values[j], slow_way_time(figure, other, corner))):
                    return False
    return True


def slow_tell(figure, isles, start, heights, goal):
    found = []
    for place, height in zip((start,) + corners_of(isles), ((0, 1),) + heights):
        if slow_free(isles, place, goal) and height is not None:
            found.append(time_plus(num(height), slow_way_time(figure, place, goal)))
    return min([time for time in found if time is not None], default=None)


class Heights(unittest.TestCase):
    def test_examples(self):
        low = ((0, 1), (2, 1), (1, 1))
        self.assertIs(are_kept(DIAMOND, ISLES, HOME, low), True)
        self.assertEqual(heights_tell(DIAMOND, ISLES, HOME, low, AWAY), (4, 1))
        self.assertIs(are_kept(DIAMOND, ISLES, HOME, ((2, 1), (4, 1), (5, 1))), False)
        self.assertIs(are_kept(DIAMOND, (), HOME, ()), True)
        self.assertEqual(heights_tell(DIAMOND, (), HOME, (), AWAY), (4, 1))

    def test_endless_ones(self):
        self.assertIs(are_kept(DIAMOND, ISLES, HOME, (None, (2, 1), (1, 1))), False)
        self.assertIs(are_kept(WEDGE, WALL, HOME, (None, None, (7, 1), (6, 1))), True)
        self.assertIs(are_kept(WEDGE, WALL, HOME, (None, None, None, (6, 1))), False)
        self.assertIs(are_kept(WEDGE, WALL, HOME, (None, (0, 1), (5, 1), (6, 1))), True)
        self.assertIs(are_kept(WEDGE, WALL, HOME, (None, (0, 1), (7, 1), (6, 1))), True)
        self.assertIs(are_kept(WEDGE, WALL, HOME, ((0, 1), None, (7, 1), (6, 1))), False)
        self.assertIsNone(heights_tell(WEDGE, WALL, HOME, (None, None, (7, 1), (6, 1)), AWAY))
        self.assertEqual(heights_tell(WEDGE, WALL, HOME, (None, (1, 1), (7, 1), (6, 1)), AWAY), (8, 1))
        self.assertEqual(heights_tell(WEDGE, WALL, HOME, (None, None, None, None), (0, 1, 1)), (1, 1))
        self.assertIsNone(heights_tell(DIAMOND, ISLES, HOME, (None, None, None), AWAY))

    def test_just_kept(self):
        times = times_from(DIAMOND, ISLES, HOME)
        self.assertIs(are_kept(DIAMOND, ISLES, HOME, times), True)
        for k in range(3):
            more = pair(num(times[k]) + Fraction(1, 10 ** 20))
            self.assertIs(are_kept(DIAMOND, ISLES, HOME, times[:k] + (more,) + times[k + 1:]), False)

    def test_bounds_by_other_corners(self):
        # Each is below the time of its leg, but one is too far above another one.
        self.assertIs(are_kept(DIAMOND, ISLES, HOME, ((0, 1), (3, 1), (1, 1))), False)
        self.assertIs(are_kept(DIAMOND, ISLES, HOME, ((2, 1), (1, 1), (4, 1))), True)

    def test_random_ones(self):
        rng = random.Random(6)
        kept, broken = 0, 0
        for _ in range(300):
            figure, isles, start, goal = random_case(rng, 2)
            soonest = times_from(figure, isles, start)
            self.assertIs(are_kept(figure, isles, start, soonest), True)
            self.assertEqual(heights_tell(figure, isles, start, soonest, goal),
                             soonest_time(figure, isles, start, goal))
            heights = random_heights(rng, soonest)
            told = are_kept(figure, isles, start, heights)
            self.assertIs(told, slow_kept(figure, isles, start, heights))
            tell = heights_tell(figure, isles, start, heights, goal)
            self.assertEqual(tell, told_time(slow_tell(figure, isles, start, heights, goal)))
            if told:
                time = soonest_time(figure, isles, start, goal)
                self.assertTrue(time is None or num(tell) <= num(time))
            kept, broken = kept + (told and isles != ()), broken + (not told)
        self.assertGreater(min(kept, broken), 20)


NOT_OUTSIDE = wrong_given(NOT_POINT, InvalidPoint) + wrong_given([(2, 0, 1), (4, 1, 2), (41, 1, 4)], InIsle)
ALL_ISLES = (ISLE,) + ROW[:1]
HEIGHTS = ((2, 1), (4, 1), None, (0, 1), (1, 3), None)
NOT_HEIGHTS = [(value, None) for value in NO_TUPLES + [(), HEIGHTS[:5], HEIGHTS + (None,), list(HEIGHTS), (HEIGHTS,)]]
NOT_HEIGHTS += [(HEIGHTS[:at] + (wrong,) + HEIGHTS[at + 1:], at) for at in (0, 3, 5)
                for wrong in NOT_TIME if wrong is not None]
NOT_HEIGHTS += [(((-1, 1), (2, 4)) + HEIGHTS[2:], 0), (HEIGHTS[:2] + (None, None, 1, 2), 4)]
ROUTE = (HOME, (2, 2, 1), AWAY)
NOT_ROUTE = [(value, None) for value in NO_TUPLES + [(), list(ROUTE)]]
NOT_ROUTE += [(ROUTE[:at] + (wrong,) + ROUTE[at:], at) for at in range(4) for wrong in NOT_POINT]
NOT_ROUTE += [((HOME,) * 41, 40), ((HOME,) * 40 + (None,), 40), ((HOME,) * 39 + (None, HOME, HOME), 39),
              ((HOME,) * 99, 40), ((HOME, None, None), 1)]
FIGURE = ("figure", DIAMOND, wrong_given(NOT_FIGURE, InvalidFigure))
THE_ISLES = ("isles", ALL_ISLES, wrong_index(not_isles(), InvalidIsles))
START = ("start", HOME, NOT_OUTSIDE)
GOAL = ("goal", AWAY, NOT_OUTSIDE)


class WrongArguments(unittest.TestCase):
    def test_route_time(self):
        check_arguments(self, route_time, [FIGURE, THE_ISLES, ("route", ROUTE, wrong_index(NOT_ROUTE, InvalidRoute))])

    def test_start_and_goal(self):
        for call in (soonest_time, soonest_route, holding_up):
            check_arguments(self, call, [FIGURE, THE_ISLES, START, GOAL])

    def test_start_or_goal(self):
        check_arguments(self, times_from, [FIGURE, THE_ISLES, START])
        check_arguments(self, times_to, [FIGURE, THE_ISLES, GOAL])

    def test_heights(self):
        heights = ("heights", HEIGHTS, wrong_index(NOT_HEIGHTS, InvalidHeights))
        check_arguments(self, are_kept, [FIGURE, THE_ISLES, START, heights])
        check_arguments(self, heights_tell, [FIGURE, THE_ISLES, START, heights, GOAL])

    def test_rims_are_not_inside(self):
        for place in [(1, -1, 1), (2, -1, 1), (3, 1, 2), (2, 2, 1)]:
            self.assertIsNotNone(soonest_time(DIAMOND, ALL_ISLES, place, AWAY))
            self.assertIsNotNone(soonest_time(DIAMOND, ALL_ISLES, AWAY, place))


if __name__ == "__main__":
    unittest.main()
