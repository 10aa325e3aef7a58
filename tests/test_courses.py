"""[19] to [22]: the winds in which courses can be made, their pairs, the soonest and the slowest wind."""
import random
import unittest
from fractions import Fraction
from math import isqrt

from tests.helpers import (NOT_FIGURE, NOT_TIME, check_arguments, num, pair, pt, random_figure, slow_hull, slow_sides,
                           slow_sum, spot, wrong_given, wrong_index)
from tests.slow import (many_directions, random_course, random_starter_figure, reduced, slow_amid, slow_critical,
                        slow_in_arc, slow_square, turn_key)
from tests.wrong import BEAM, BOX, DIAMOND, KITE, WEDGE, WRONG_COURSE
from windfigure.courses import course_polygon, made_in, pairs_of, slowest, soonest_wind, winds_in_time
from windfigure.errors import InvalidCourse, InvalidFigure, InvalidTime
from windfigure.points import is_direction

EAST = ((1, 0, 1),)
ROUND = ((1, 0, 1), (-1, 0, 1))
# The winds of its ways lie round the north-east and the south-east, a right angle each, and share one wind.
BENT = ((1, 1, 1), (1, -1, 1))
CORNER = ((1, 0, 1), (0, 1, 1))
# Nought is a corner of less than, just, and more than a right angle.
NARROW = ((0, 0, 1), (2, -1, 1), (2, 1, 1))
WIDE = slow_hull([(0, 0, 1), (1, -2, 1), (3, 0, 1), (1, 2, 1)])
ALL = (None, True, None, True)


def alone(wind):
    return (wind, True, wind, True)


def rose(figure, course):
    """All winds that the tests look at for a course, critical ones and some between."""
    return many_directions(*slow_critical(figure, course))


def in_some_arc(wind, arcs):
    if arcs is None:
        return False
    return any(slow_in_arc(wind, arc) for arc in (arcs if isinstance(arcs[0], tuple) and len(arcs) == 2 else [arcs]))


def random_case(rng):
    """A figure and a course; at times such that one wind alone or two winds are left."""
    if rng.random() < 0.1:
        (way,) = random_course(rng, 1)
        x, y = spot(way)
        if rng.random() < 0.5:
            return BEAM, (way, pt(-x, -y), pt(x / 2, y / 2))
        return WEDGE, (way, pt(-2 * y, 2 * x))
    figure = rng.choice([KITE, BOX, WEDGE, BEAM, NARROW, WIDE]) if rng.random() < 0.4 else random_figure(rng)
    course = random_course(rng, rng.choice((1, 2, 6)))
    if rng.random() < 0.4:
        # Ways at right angles, opposite and parallel to each other.
        x, y = spot(course[0])
        ways = [(-x, -y), (2 * x, 2 * y), (-3 * x, -3 * y), (-y, x), (y, -x), (x + y, y - x)][:rng.choice((3, 6))]
        course = course[:rng.randint(1, 3)] + tuple(pt(*rng.choice(ways)) for _ in range(rng.randint(1, 3)))
    return figure, course


class MadeIn(unittest.TestCase):
    def test_all_and_arcs(self):
        for figure in (KITE, DIAMOND, BOX):
            self.assertEqual(made_in(figure, EAST), ALL)
            self.assertEqual(made_in(figure, BENT + ROUND + CORNER), ALL)
        self.assertEqual(made_in(WEDGE, EAST), ((1, -1), True, (1, 1), True))
        self.assertEqual(made_in(WEDGE, ((-1, 0, 1),)), ((-1, 1), True, (-1, -1), True))
        self.assertEqual(made_in(WEDGE, ((0, 5, 1),)), ((1, 1), True, (-1, 1), True))
        # An arc that is smaller than that of each way.
        self.assertEqual(made_in(WEDGE, ((2, 1, 1), (2, -1, 1))), ((3, -1), True, (3, 1), True))
        self.assertEqual(made_in(WIDE, BENT), ((3, -1), True, (3, 1), True))

    def test_half_a_turn(self):
        self.assertEqual(made_in(BEAM, EAST), ((-1, 0), True, (1, 0), True))
        self.assertEqual(made_in(BEAM, ((-1, 0, 1),)), ((1, 0), True, (-1, 0), True))
        self.assertEqual(made_in(BEAM, ((0, -1, 1),)), ((0, 1), True, (0, -1), True))
        self.assertEqual(made_in(BEAM, ((0, 1, 1),)), ((0, -1), True, (0, 1), True))
        self.assertEqual(made_in(BEAM, ((1, 0, 1), (3, 0, 2), (1, 0, 9))), ((-1, 0), True, (1, 0), True))
        self.assertEqual(made_in(BEAM, ((1, 0, 1), (0, 1, 1))), ((0, -1), True, (1, 0), True))

    def test_one_wind_two_and_none(self):
        self.assertEqual(made_in(WEDGE, BENT), alone((1, 0)))
        self.assertEqual(made_in(WEDGE, CORNER), alone((1, 1)))
        self.assertEqual(made_in(WEDGE, ((-1, 0, 1), (0, -1, 1))), alone((-1, -1)))
        self.assertEqual(made_in(BEAM, ROUND), (alone((1, 0)), alone((-1, 0))))
        self.assertEqual(made_in(BEAM, ((1, 2, 1), (-1, -2, 1), (2, 4, 1))), (alone((1, 2)), alone((-1, -2))))
        self.assertEqual(made_in(BEAM, ((2, -1, 1), (-2, 1, 1))), (alone((-2, 1)), alone((2, -1))))
        self.assertIsNone(made_in(WEDGE, ROUND))
        self.assertIsNone(made_in(NARROW, BENT))
        self.assertIsNone(made_in(NARROW, CORNER))
        self.assertIsNone(made_in(BEAM, ROUND + ((0, 1, 1), (0, -1, 1))))
        # Three ways that leave one wind of a half turn alone.
        self.assertEqual(made_in(BEAM, ROUND + ((0, 1, 1),)), alone((1, 0)))

    def test_random_ones(self):
        rng = random.Random(1)
        kinds = {}
        for _ in range(300):
            figure, course = random_case(rng)
            arcs = made_in(figure, course)
            kind = "none" if arcs is None else "two" if len(arcs) == 2 else "all" if arcs == ALL else (
                "one" if arcs[0] == arcs[2] else "half" if sum(map(abs, spot_sum(arcs))) == 0 else "arc")
            kinds[kind] = kinds.get(kind, 0) + 1
            for wind in rose(figure, course):
                self.assertEqual(in_some_arc(wind, arcs), slow_square(figure, course, wind) is not None)
            if kind in ("one", "arc", "half"):
                self.assertEqual((arcs[1], arcs[3]), (True, True))
                self.assertTrue(is_direction(arcs[0]) and is_direction(arcs[2]))
                self.assertTrue(kind == "one" or (turn_key(arcs[2]) - turn_key(arcs[0])) % 4 <= 2)
            if kind == "two":
                self.assertLess(turn_key(arcs[0][0]), turn_key(arcs[1][0]))
        self.assertEqual(set(kinds), {"none", "two", "all", "one", "half", "arc"})
        self.assertGreater(min(kinds.values()), 4, kinds)


def spot_sum(arc):
    return (arc[0][0] + arc[2][0], arc[0][1] + arc[2][1])


class Pairs(unittest.TestCase):
    def test_arcs(self):
        self.assertEqual(pairs_of(WEDGE, EAST), ((((1, -1), True, (1, 1), True), (1, 0, 1)),))
        self.assertEqual(pairs_of(BOX, EAST), (
            (((1, 1), True, (-1, 1), True), (0, 1, 1)), (((-1, 1), True, (-1, -1), True), (-1, 0, 1)),
            (((-1, -1), True, (1, -1), True), (0, -1, 1)), (((1, -1), True, (1, 1), True), (1, 0, 1))))
        self.assertEqual(pairs_of(DIAMOND, EAST), (
            (((1, 0), True, (0, 1), True), (1, 1, 1)), (((0, 1), True, (-1, 0), True), (-1, 1, 1)),
            (((-1, 0), True, (0, -1), True), (-1, -1, 1)), (((0, -1), True, (1, 0), True), (1, -1, 1))))
        self.assertEqual(pairs_of(BEAM, EAST), (
            (((-1, 0), True, (0, -1), True), (-3, -1, 3)), (((0, -1), True, (1, 0), True), (3, -1, 3))))

    def test_without_an_arc(self):
        for figure, course in ((WEDGE, BENT), (WEDGE, CORNER), (BEAM, ROUND), (WEDGE, ROUND), (NARROW, BENT)):
            self.assertEqual(pairs_of(figure, course), ())

    def test_a_critical_wind_with_one_pair_on_both_sides(self):
        # In the winds along the axes the one way's pair changes back as the other one's does not.
        for course in (EAST, ROUND, BENT, CORNER, EAST * 6):
            found = pairs_of(BOX, course)
            self.assertTrue(all(found[k - 1][1] != found[k][1] for k in range(len(found))))

    def test_random_ones(self):
        rng = random.Random(2)
        for _ in range(150):
            figure, course = random_case(rng)
            found = pairs_of(figure, course)
            arcs = [arc for arc, point in found]
            begins = [turn_key(arc[0]) for arc in arcs]
            self.assertEqual(begins, sorted(set(begins)))
            self.assertTrue(all(arc[0] != arc[2] and arc[1] is True and arc[3] is True for arc in arcs))
            for k in range(len(found)):
                # As long as it can be: what follows has another pair, or none.
                if arcs[k - 1][2] == arcs[k][0]:
                    self.assertNotEqual(found[k - 1][1], found[k][1])
            self.check_winds(figure, course, found)

    def check_winds(self, figure, course, found):
        made = made_in(figure, course)
        single = made is None or len(made) == 2 or (made[0] is not None and made[0] == made[2])
        self.assertEqual(found == (), single)
        for wind in rose(figure, course):
            square = slow_square(figure, course, wind)
            points = [point for arc, point in found if slow_in_arc(wind, arc)]
            if not single:
                self.assertEqual(square is None, points == [])
            for x, y in map(spot, points):
                told = x * wind[0] + y * wind[1]
                self.assertGreater(told, 0)
                self.assertEqual(told ** 2, square * (wind[0] ** 2 + wind[1] ** 2))


class Polygons(unittest.TestCase):
    def test_where_it_does_not_exist(self):
        for figure in (WEDGE, BEAM, NARROW, WIDE):
            for course in (EAST, BENT, ROUND):
                self.assertIsNone(course_polygon(figure, course))

    def test_examples(self):
        self.assertEqual(course_polygon(DIAMOND, EAST), BOX)
        self.assertEqual(course_polygon(BOX, EAST), DIAMOND)
        self.assertEqual(course_polygon(BOX, EAST * 6), ((-6, 0, 1), (0, -6, 1), (6, 0, 1), (0, 6, 1)))
        self.assertEqual(course_polygon(BOX, ((1, 0, 2), (3, 0, 2))), ((-2, 0, 1), (0, -2, 1), (2, 0, 1), (0, 2, 1)))

    def test_random_ones(self):
        rng = random.Random(3)
        for _ in range(120):
            figure, course = random_starter_figure(rng), random_course(rng, 6)
            slow = ((0, 0, 1),)
            for x, y in map(spot, course):
                slow = slow_sum(slow, slow_hull([pt((a * x + b * y) / h, (a * y - b * x) / h)
                                                 for a, b, h in slow_sides(figure)]))
            found = course_polygon(figure, course)
            self.assertEqual(found, slow)
            for wind in rose(figure, course)[::7]:
                most = max(x * wind[0] + y * wind[1] for x, y in map(spot, found))
                self.assertEqual(most ** 2, slow_square(figure, course, wind) * (wind[0] ** 2 + wind[1] ** 2))


class Extremes(unittest.TestCase):
    def test_at_critical_winds_ends_and_inside(self):
        self.assertEqual(slowest(WEDGE, EAST), ((1, 0), (1, 1)))
        self.assertEqual(soonest_wind(WEDGE, EAST)[1], (1, 2))
        self.assertIn(soonest_wind(WEDGE, EAST)[0], ((1, 1), (1, -1)))
        self.assertEqual(slowest(DIAMOND, EAST)[1], (2, 1))
        self.assertEqual(soonest_wind(DIAMOND, EAST)[1], (1, 1))
        # The greatest one at an end, as (A, B) itself is outside.
        self.assertEqual(slowest(WEDGE, ((2, 1, 1), (2, -1, 1))), ((1, 0), (16, 1)))
        self.assertEqual(slowest(BEAM, ((1, 0, 1), (0, 1, 1))), ((1, -1), (32, 9)))
        # The pair (1, 2) lies outside the arc.
        slim = ((0, 0, 1), (1, 0, 1), (3, 1, 1))
        self.assertEqual(pairs_of(slim, EAST), ((((3, -1), True, (1, 0), True), (1, 2, 1)),))
        self.assertEqual(slowest(slim, EAST), ((1, 0), (1, 1)))
        self.assertEqual(soonest_wind(slim, EAST), ((3, -1), (1, 10)))
        self.assertEqual(soonest_wind(KITE, EAST), ((1, 0), (1, 9)))

    def test_one_wind_two_and_none(self):
        self.assertEqual(slowest(WEDGE, BENT), ((1, 0), (4, 1)))
        self.assertEqual(soonest_wind(WEDGE, BENT), ((1, 0), (4, 1)))
        self.assertEqual(slowest(BEAM, ROUND)[1], (4, 1))
        self.assertEqual(soonest_wind(BEAM, ROUND)[1], (4, 1))
        self.assertIn(slowest(BEAM, ROUND)[0], ((1, 0), (-1, 0)))
        self.assertIn(soonest_wind(BEAM, ROUND)[0], ((1, 0), (-1, 0)))
        # Of two opposite winds one is the sooner.
        skew = ((-2, 0, 1), (1, 0, 1), (0, 3, 1))
        self.assertEqual(slowest(skew, ((1, 0, 1), (-2, 0, 1))), ((-1, 0), (25, 4)))
        self.assertEqual(soonest_wind(skew, ((1, 0, 1), (-2, 0, 1))), ((1, 0), (4, 1)))
        self.assertIsNone(slowest(WEDGE, ROUND))
        self.assertIsNone(soonest_wind(WEDGE, ROUND))

    def test_by_the_polygon(self):
        rng = random.Random(4)
        for _ in range(120):
            figure, course = random_starter_figure(rng), random_course(rng)
            polygon = course_polygon(figure, course)
            most = max(x * x + y * y for x, y in map(spot, polygon))
            least = min(h * h / Fraction(a * a + b * b) for a, b, h in slow_sides(polygon))
            self.check_told(figure, course, slowest(figure, course), most)
            self.check_told(figure, course, soonest_wind(figure, course), least)

    def check_told(self, figure, course, told, square):
        wind, told_square = told
        self.assertTrue(is_direction(wind))
        self.assertEqual(num(told_square), square)
        self.assertEqual(slow_square(figure, course, wind), square)

    def test_no_wind_is_beyond(self):
        rng = random.Random(5)
        for _ in range(150):
            figure, course = random_case(rng)
            squares = [slow_square(figure, course, wind) for wind in rose(figure, course)]
            squares = [square for square in squares if square is not None]
            if not squares:
                self.assertIsNone(slowest(figure, course))
                self.assertIsNone(soonest_wind(figure, course))
                continue
            most, least = num(slowest(figure, course)[1]), num(soonest_wind(figure, course)[1])
            self.check_told(figure, course, slowest(figure, course), most)
            self.check_told(figure, course, soonest_wind(figure, course), least)
            self.assertEqual(least, min(squares))
            self.assertGreaterEqual(most, max(squares))
            # Along a pair, if it is in its arc, and at the ends of arcs.
            tried = [reduced(*spot(point)) for arc, point in pairs_of(figure, course)
                     if slow_in_arc(reduced(*spot(point)), arc)]
            self.assertEqual(most, max(squares + [slow_square(figure, course, wind) for wind in tried]))


class InTime(unittest.TestCase):
    def test_examples(self):
        self.assertEqual([winds_in_time(DIAMOND, EAST, time) for time in ((3, 2), (1, 1), (1, 2))],
                         ["all", "some", "none"])
        self.assertEqual(winds_in_time(BOX, EAST, (1, 1)), "all")
        self.assertEqual(winds_in_time(BOX, EAST, (99, 100)), "some")
        self.assertEqual(winds_in_time(BOX, EAST, (707, 1000)), "none")
        self.assertEqual(winds_in_time(BOX, EAST, (177, 250)), "some")
        self.assertEqual(winds_in_time(BOX, EAST, (0, 1)), "none")

    def test_not_all_winds_make_it(self):
        self.assertEqual(winds_in_time(WEDGE, EAST, (1, 1)), "some")
        self.assertEqual(winds_in_time(WEDGE, EAST, (10 ** 9, 1)), "some")
        self.assertEqual(winds_in_time(WEDGE, EAST, (707, 1000)), "none")
        self.assertEqual(winds_in_time(WEDGE, EAST, (177, 250)), "some")
        self.assertEqual(winds_in_time(WEDGE, BENT, (2, 1)), "some")
        self.assertEqual(winds_in_time(WEDGE, BENT, (199, 100)), "none")
        self.assertEqual(winds_in_time(WEDGE, ROUND, (10 ** 9, 1)), "none")
        self.assertEqual(winds_in_time(BEAM, ROUND, (2, 1)), "some")
        self.assertEqual(winds_in_time(BEAM, ROUND, (199, 100)), "none")

    def test_at_the_very_time(self):
        # With the length 5 all winds along corners of the course's polygon have whole times.
        course = ((3, 4, 1),)
        self.assertEqual(slowest(BOX, course)[1], (25, 1))
        self.assertEqual([winds_in_time(BOX, course, time) for time in ((5, 1), (499, 100))], ["all", "some"])
        self.assertEqual(soonest_wind(DIAMOND, course)[1], (25, 1))
        self.assertEqual([winds_in_time(DIAMOND, course, time) for time in ((5, 1), (499, 100))], ["some", "none"])

    def test_random_ones(self):
        rng = random.Random(6)
        words = {"all": 0, "some": 0, "none": 0}
        for _ in range(120):
            figure, course = random_case(rng)
            least, most = soonest_wind(figure, course), slowest(figure, course)
            times = [Fraction(rng.randint(0, 30), rng.randint(1, 6))]
            for told in (least, most):
                if told is not None:
                    # The next fractions beside the root.
                    top, bottom = told[1]
                    root = isqrt(top * bottom * 10 ** 12)
                    times += [Fraction(root + k, bottom * 10 ** 6) for k in (-1, 0, 1)]
            for time in times:
                word = "some"
                if least is None or num(least[1]) > time ** 2:
                    word = "none"
                elif made_in(figure, course) == ALL and num(most[1]) <= time ** 2:
                    word = "all"
                self.assertEqual(winds_in_time(figure, course, pair(time)), word)
                words[word] += 1
        self.assertGreater(min(words.values()), 25, words)


FIGURE_ROW = ("figure", KITE, wrong_given(NOT_FIGURE, InvalidFigure))
COURSE_ROW = ("course", ((1, 0, 1), (2, -1, 3)), wrong_index(WRONG_COURSE, InvalidCourse))


class WrongArguments(unittest.TestCase):
    def test_figures_and_courses(self):
        for call in (made_in, pairs_of, course_polygon, slowest, soonest_wind):
            check_arguments(self, call, [FIGURE_ROW, COURSE_ROW])

    def test_times(self):
        check_arguments(self, winds_in_time, [FIGURE_ROW, COURSE_ROW,
                                              ("time", (3, 2), wrong_given(NOT_TIME, InvalidTime))])


if __name__ == "__main__":
    unittest.main()
