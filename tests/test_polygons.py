"""[8] to [11]: polygons, their sides, supports, sums and common parts."""
import random
import unittest
from fractions import Fraction

from tests.helpers import (ANY, NO_TUPLES, NOT_FRACTION, NOT_NORMAL, NOT_POINT, NOT_POLYGON, NOT_SIDE, Odd,
                           check_arguments, check_raised, cross, deep, in_hull, inside_hull, num, pair, pt,
                           random_point, random_polygon, slow_common, slow_hull, slow_opposite, slow_scaled, slow_sum,
                           slow_support, spot, wrong_given, wrong_index)
from windfigure.errors import (InvalidFraction, InvalidNormal, InvalidPoint, InvalidPoints, InvalidPolygon,
                               InvalidSide)
from windfigure.points import excess, is_fraction, is_side
from windfigure.polygons import (apart, area_of, common_part, cut_by, far_corners, holds, hull_of, is_polygon,
                                 is_within, lies_inside, middle_of, moved, opposite_of, scaled, sides_of, sum_of,
                                 support_of)

DOT = ((1, 1, 2),)
STRETCH = ((0, 0, 1), (1, 2, 1))
UPRIGHT = ((1, -1, 1), (2, 3, 2))
HALF = ((0, 0, 1), (1, 0, 1), (0, 1, 1))
SQUARE = ((0, 0, 1), (2, 0, 1), (2, 2, 1), (0, 2, 1))
KITE = ((-1, 0, 1), (1, -2, 1), (3, 0, 1), (1, 2, 1))
SIX = ((-2, 0, 1), (-1, -1, 1), (1, -1, 1), (2, 0, 1), (1, 1, 1), (-1, 1, 1))
SHAPES = [DOT, ((0, 0, 1),), STRETCH, UPRIGHT, ((-1, 0, 1), (1, 0, 1)), HALF, SQUARE, KITE, SIX]
GRID = [pt(Fraction(x, 2), Fraction(y, 2)) for x in range(-5, 6) for y in range(-5, 6)]
WRONG_POLYGONS = wrong_given(NOT_POLYGON, InvalidPolygon)
WRONG_POINTS = wrong_given(NOT_POINT, InvalidPoint)
WRONG_NORMALS = wrong_given(NOT_NORMAL, InvalidNormal)
WRONG_SIDES = wrong_given(NOT_SIDE, InvalidSide)
WRONG_FACTORS = wrong_given(NOT_FRACTION + [(-1, 1), (-1, 2), (-10 ** 40, 1)], InvalidFraction)
POLYGON = ("polygon", SQUARE, WRONG_POLYGONS)
OTHER = ("other", HALF, WRONG_POLYGONS)


def spots_of(polygon):
    return [spot(corner) for corner in polygon]


def some_polygons(seed, many):
    rng = random.Random(seed)
    return [random_polygon(rng, 6, 3) for _ in range(many)]


class Kinds(unittest.TestCase):
    def test_polygons(self):
        for value in SHAPES + some_polygons(1, 60):
            self.assertIs(is_polygon(value), True, value)
            self.assertIs(is_polygon(value=value), True)

    def test_no_polygons(self):
        for value in NOT_POLYGON + [deep(13), (Odd(),), ((0, 0, 1), Odd())]:
            self.assertIs(is_polygon(value), False)

    def test_each_other_order_of_the_corners_is_none(self):
        for value in [STRETCH, HALF, SQUARE, SIX]:
            for at in range(1, len(value)):
                self.assertIs(is_polygon(value[at:] + value[:at]), False)
            self.assertIs(is_polygon(value[::-1]), False)
            self.assertIs(is_polygon(value[:1] + value[:0:-1]), len(value) == 2)

    def test_the_least_corner_is_told_by_numbers(self):
        # (1, 0, 2) is less than (1, 0, 1), and of equal numbers x the lower one comes first.
        self.assertIs(is_polygon(((1, 0, 2), (1, 0, 1))), True)
        self.assertIs(is_polygon(((1, 0, 1), (1, 0, 2))), False)
        self.assertIs(is_polygon(((1, -1, 2), (1, 0, 1), (1, 3, 2))), True)
        self.assertIs(is_polygon(((1, 3, 2), (1, -1, 2), (1, 0, 1))), False)


class Hulls(unittest.TestCase):
    def test_twice_between_and_on_one_line(self):
        self.assertEqual(hull_of(((1, 1, 2), (1, 1, 2), (1, 1, 2))), DOT)
        self.assertEqual(hull_of(((1, 2, 1), (1, 2, 2), (0, 0, 1), (1, 2, 1), (0, 0, 1), (1, 2, 3))), STRETCH)
        self.assertEqual(hull_of(((2, 3, 2), (1, 0, 1), (1, -1, 1), (1, -1, 1))), ((1, -1, 1), (2, 3, 2)))
        self.assertEqual(hull_of(SQUARE[::-1] + ((1, 0, 1), (2, 1, 1), (1, 1, 1), (1, 2, 1), (0, 1, 1))), SQUARE)

    def test_against_the_words_of_the_document(self):
        rng = random.Random(2)
        for _ in range(250):
            points = [random_point(rng, 3) for _ in range(rng.randint(1, 8))]
            points += rng.sample(points, rng.randint(0, len(points)))
            told = hull_of(tuple(points))
            self.assertEqual(told, slow_hull(points))
            self.assertTrue(is_polygon(told))
            self.assertTrue(all(corner in points for corner in told))
            rng.shuffle(points)
            self.assertEqual(hull_of(points=tuple(points)), told)

    def test_of_points_on_one_line(self):
        rng = random.Random(3)
        for _ in range(60):
            u, v = rng.choice([(1, 0), (0, 1), (2, -3), (-1, 5)])
            points = [pt(Fraction(u * k, 6) + 1, Fraction(v * k, 6)) for k in rng.sample(range(-9, 9), 5)]
            told = hull_of(tuple(points))
            self.assertEqual(told, slow_hull(points))
            self.assertEqual(len(told), 2)

    def test_wrong_points(self):
        rows = [(value, None) for value in NO_TUPLES + [(), list(HALF)]]
        for at in range(4):
            for wrong in NOT_POINT:
                rows.append(((HALF + DOT)[:at] + (wrong,) + (HALF + DOT)[at:], at))
        rows += [((None, None), 0), (((0, 0, 1), (0, 0, 2), (0, 0, 3)), 1), ((1,), 0)]
        check_arguments(self, hull_of, [("points", HALF, wrong_index(rows, InvalidPoints))])


class Sides(unittest.TestCase):
    def test_of_points(self):
        self.assertEqual(sides_of(DOT), ((2, 0, 1), (0, 2, 1), (-2, 0, -1), (0, -2, -1)))
        self.assertEqual(sides_of(((3, -2, 1),)), ((1, 0, 3), (0, 1, -2), (-1, 0, -3), (0, -1, 2)))
        self.assertEqual(sides_of(((0, 0, 1),)), ((1, 0, 0), (0, 1, 0), (-1, 0, 0), (0, -1, 0)))

    def test_of_stretches(self):
        self.assertEqual(sides_of(STRETCH), ((2, -1, 0), (1, 2, 5), (-2, 1, 0), (-1, -2, 0)))
        self.assertEqual(sides_of(((1, 0, 2), (3, 0, 2))), ((0, -1, 0), (2, 0, 3), (0, 1, 0), (-2, 0, -1)))
        self.assertEqual(sides_of(((1, 1, 1), (1, 4, 1))), ((1, 0, 1), (0, 1, 4), (-1, 0, -1), (0, -1, -1)))
        rng = random.Random(4)
        for _ in range(60):
            p, q = sorted([random_point(rng), random_point(rng)], key=spot)
            if p == q:
                continue
            (x, y), (s, t) = spot(p), spot(q)
            u, v = s - x, t - y
            told = sides_of((p, q))
            self.assertEqual(len(told), 4)
            for (a, b, h), (c, d) in zip(told, [(v, -u), (u, v), (-v, u), (-u, -v)]):
                self.assertTrue(is_side((a, b, h)))
                self.assertEqual(a * d - b * c, 0)
                self.assertGreater(a * c + b * d, 0)
                self.assertEqual(max(a * x + b * y, a * s + b * t), h)

    def test_of_areas(self):
        self.assertEqual(sides_of(HALF), ((0, -1, 0), (1, 1, 1), (-1, 0, 0)))
        self.assertEqual(sides_of(SQUARE), ((0, -1, 0), (1, 0, 2), (0, 1, 2), (-1, 0, 0)))
        self.assertEqual(sides_of(KITE), ((-1, -1, 1), (1, -1, 3), (1, 1, 3), (-1, 1, 1)))
        for polygon in some_polygons(5, 80):
            if len(polygon) < 3:
                continue
            told = sides_of(polygon)
            self.assertEqual(len(told), len(polygon))
            for k, side in enumerate(told):
                self.assertTrue(is_side(side))
                on = [corner for corner in polygon if excess(side, corner) == (0, 1)]
                self.assertEqual(set(on), {polygon[k], polygon[(k + 1) % len(polygon)]})
                self.assertTrue(all(excess(side, corner)[0] <= 0 for corner in polygon))

    def test_a_polygon_is_what_all_its_sides_hold(self):
        for polygon in SHAPES + some_polygons(6, 20):
            for point in GRID:
                held = all(excess(side, point)[0] <= 0 for side in sides_of(polygon))
                self.assertIs(holds(polygon, point), held)


class Held(unittest.TestCase):
    def test_held_and_within(self):
        for polygon in SHAPES + some_polygons(7, 40):
            for point in GRID + list(polygon):
                self.assertIs(holds(polygon, point), in_hull(spot(point), spots_of(polygon)))
                within = len(polygon) > 2 and inside_hull(spot(point), spots_of(polygon))
                self.assertIs(is_within(polygon, point), within, (polygon, point))

    def test_the_rim_is_held_but_not_within(self):
        for point in [(0, 0, 1), (1, 0, 1), (2, 1, 1), (1, 2, 1), (0, 1, 2)]:
            self.assertIs(holds(SQUARE, point), True)
            self.assertIs(is_within(SQUARE, point), False)
        self.assertIs(is_within(SQUARE, (1, 1, 1)), True)
        self.assertIs(is_within(SQUARE, (10 ** 30 - 1, 10 ** 30, 10 ** 30)), True)
        self.assertIs(holds(SQUARE, (-1, 10 ** 30, 10 ** 30)), False)
        self.assertIs(is_within(STRETCH, (1, 2, 2)), False)
        self.assertIs(holds(STRETCH, (1, 2, 2)), True)
        self.assertIs(is_within(DOT, (1, 1, 2)), False)
        self.assertIs(holds(DOT, (1, 1, 2)), True)


class Supports(unittest.TestCase):
    NORMALS = [(1, 0), (0, 1), (-1, 0), (0, -1), (1, 1), (-2, 1), (6, -4), (0, 7), (-3, -3), (10 ** 30, 1)]

    def test_supports_and_far_corners(self):
        for polygon in SHAPES + some_polygons(8, 40):
            for a, b in self.NORMALS + [side[:2] for side in sides_of(polygon)]:
                most = slow_support(polygon, a, b)
                self.assertEqual(support_of(polygon, (a, b)), pair(most))
                far = tuple(corner for corner in polygon if a * spot(corner)[0] + b * spot(corner)[1] == most)
                self.assertEqual(far_corners(polygon, (a, b)), far)
                self.assertIn(len(far), (1, 2))

    def test_order_of_far_corners(self):
        self.assertEqual(far_corners(SQUARE, (0, 3)), ((2, 2, 1), (0, 2, 1)))
        self.assertEqual(far_corners(SQUARE, (-2, 0)), ((0, 0, 1), (0, 2, 1)))
        self.assertEqual(far_corners(STRETCH, (2, -1)), STRETCH)
        self.assertEqual(far_corners(STRETCH, (-2, -4)), ((0, 0, 1),))
        self.assertEqual(far_corners(DOT, (-2, 5)), DOT)

    def test_the_normal_is_not_reduced(self):
        self.assertEqual(support_of(SQUARE, (2, 6)), (16, 1))
        self.assertEqual(support_of(DOT, (2, 4)), (3, 1))
        self.assertEqual(support_of(DOT, (-1, 4)), (3, 2))
        self.assertEqual(support_of(((0, 0, 1),), (9, 4)), (0, 1))


class Sums(unittest.TestCase):
    def test_sums(self):
        shapes = SHAPES + some_polygons(9, 25)
        for one in shapes:
            for two in shapes:
                told = sum_of(one, two)
                self.assertEqual(told, slow_sum(one, two))
                self.assertEqual(sum_of(two, one), told)

    def test_sums_along_one_line(self):
        self.assertEqual(sum_of(STRETCH, STRETCH), ((0, 0, 1), (2, 4, 1)))
        self.assertEqual(sum_of(STRETCH, ((0, 0, 1), (2, 4, 1))), ((0, 0, 1), (3, 6, 1)))
        self.assertEqual(sum_of(DOT, DOT), ((1, 1, 1),))
        self.assertEqual(sum_of(((0, 0, 1), (0, 1, 1)), ((0, 0, 1), (1, 0, 1))),
                         ((0, 0, 1), (1, 0, 1), (1, 1, 1), (0, 1, 1)))
        self.assertEqual(sum_of(HALF, HALF), ((0, 0, 1), (2, 0, 1), (0, 2, 1)))
        self.assertEqual(len(sum_of(HALF, opposite_of(HALF))), 6)

    def test_opposite(self):
        self.assertEqual(opposite_of(HALF), ((-1, 0, 1), (0, -1, 1), (0, 0, 1)))
        self.assertEqual(opposite_of(STRETCH), ((-1, -2, 1), (0, 0, 1)))
        self.assertEqual(opposite_of(DOT), ((-1, -1, 2),))
        for polygon in SHAPES + some_polygons(10, 40):
            self.assertEqual(opposite_of(polygon), slow_opposite(polygon))
            self.assertEqual(opposite_of(opposite_of(polygon)), polygon)

    def test_moved(self):
        rng = random.Random(11)
        for polygon in SHAPES + some_polygons(11, 30):
            way = random_point(rng)
            self.assertEqual(moved(polygon, way), slow_sum(polygon, (way,)))
            self.assertEqual(moved(polygon, (0, 0, 1)), polygon)

    def test_scaled(self):
        for polygon in SHAPES + some_polygons(12, 30):
            self.assertEqual(scaled(polygon, (0, 1)), ((0, 0, 1),))
            self.assertEqual(scaled(polygon, (1, 1)), polygon)
            for fraction in [(1, 2), (3, 1), (7, 5), (1, 10 ** 20)]:
                self.assertEqual(scaled(polygon, fraction), slow_scaled(polygon, num(fraction)))

    def test_what_is_told_is_a_polygon(self):
        rng = random.Random(13)
        for _ in range(60):
            one, two = random_polygon(rng, 6), random_polygon(rng, 6)
            for told in [sum_of(one, two), opposite_of(one), moved(one, random_point(rng)), scaled(one, (3, 7))]:
                self.assertTrue(is_polygon(told))
                self.assertTrue(all(isinstance(corner, tuple) for corner in told))


class Parts(unittest.TestCase):
    def test_cuts(self):
        self.assertEqual(cut_by(SQUARE, (1, 1, 1)), HALF)
        self.assertEqual(cut_by(SQUARE, (1, 1, 0)), ((0, 0, 1),))
        self.assertIsNone(cut_by(SQUARE, (1, 1, -1)))
        self.assertEqual(cut_by(SQUARE, (1, 0, 0)), ((0, 0, 1), (0, 2, 1)))
        self.assertEqual(cut_by(SQUARE, (1, 0, 2)), SQUARE)
        self.assertEqual(cut_by(SQUARE, (1, 0, 5)), SQUARE)
        self.assertEqual(cut_by(SQUARE, (-1, 0, -2)), ((2, 0, 1), (2, 2, 1)))
        self.assertEqual(cut_by(SQUARE, (-2, 0, -1)), ((1, 0, 2), (2, 0, 1), (2, 2, 1), (1, 4, 2)))
        self.assertEqual(cut_by(SQUARE, (-1, 1, 0)), ((0, 0, 1), (2, 0, 1), (2, 2, 1)))
        self.assertEqual(cut_by(STRETCH, (2, 0, 1)), ((0, 0, 1), (1, 2, 2)))
        self.assertEqual(cut_by(STRETCH, (-2, 0, -1)), ((1, 2, 2), (1, 2, 1)))
        self.assertEqual(cut_by(STRETCH, (1, 0, 0)), ((0, 0, 1),))
        self.assertEqual(cut_by(STRETCH, (2, -1, 0)), STRETCH)
        self.assertIsNone(cut_by(STRETCH, (1, 0, -1)))
        self.assertEqual(cut_by(DOT, (2, 0, 1)), DOT)
        self.assertIsNone(cut_by(DOT, (1, 0, 0)))
        self.assertIsNone(cut_by(DOT, (3, 0, 1)))

    def test_cuts_against_a_wide_part_of_the_plane(self):
        rng = random.Random(14)
        far = 1000
        for polygon in SHAPES + some_polygons(14, 60):
            a, b, h = rng.choice([(1, 0, 1), (0, -1, 1), (2, 1, 3), (-1, 3, -2), (1, -1, 0), (5, 7, 1)])
            base = (Fraction(a * h, a * a + b * b), Fraction(b * h, a * a + b * b))
            wide = slow_hull([pt(base[0] + far * (i * -b - j * a), base[1] + far * (i * a - j * b))
                              for i in (-1, 1) for j in (0, 1)])
            self.assertEqual(cut_by(polygon, (a, b, h)), slow_common(polygon, wide))

    def test_common_parts(self):
        shapes = SHAPES + some_polygons(15, 30)
        kinds = set()
        for one in shapes:
            for two in shapes:
                told = common_part(one, two)
                self.assertEqual(told, slow_common(one, two), (one, two))
                kinds.add(0 if told is None else min(len(told), 3))
        self.assertEqual(kinds, {0, 1, 2, 3})

    def test_common_parts_that_touch(self):
        self.assertEqual(common_part(SQUARE, moved(SQUARE, (2, 0, 1))), ((2, 0, 1), (2, 2, 1)))
        self.assertEqual(common_part(SQUARE, moved(SQUARE, (2, 2, 1))), ((2, 2, 1),))
        self.assertIsNone(common_part(SQUARE, moved(SQUARE, (10 ** 20 * 2 + 1, 0, 10 ** 20))))
        self.assertEqual(common_part(SQUARE, ((1, 1, 1),)), ((1, 1, 1),))
        self.assertEqual(common_part(((1, 1, 1),), SQUARE), ((1, 1, 1),))
        self.assertEqual(common_part(STRETCH, ((0, 1, 1), (1, 1, 1))), ((1, 2, 2),))
        self.assertEqual(common_part(SIX, scaled(SIX, (1, 3))), scaled(SIX, (1, 3)))

    def test_lies_inside(self):
        self.assertIs(lies_inside(HALF, SQUARE), True)
        self.assertIs(lies_inside(SQUARE, HALF), False)
        self.assertIs(lies_inside(HALF, HALF), True)
        self.assertIs(lies_inside(DOT, HALF), True)
        self.assertIs(lies_inside(HALF, DOT), False)
        self.assertIs(lies_inside(((0, 0, 1),), ((0, 0, 1),)), True)
        shapes = SHAPES + some_polygons(16, 25)
        for one in shapes:
            for two in shapes:
                self.assertIs(lies_inside(one, two), all(in_hull(p, spots_of(two)) for p in spots_of(one)))
                self.assertIs(lies_inside(one, two), common_part(one, two) == one)

    def test_apart(self):
        shapes = SHAPES + some_polygons(17, 30)
        found = 0
        for one in shapes:
            for two in shapes:
                told = apart(one, two)
                if slow_common(one, two) is not None:
                    self.assertIsNone(told)
                    continue
                found += 1
                sides = sides_of(slow_sum(one, slow_opposite(two)))
                self.assertEqual(told, [side for side in sides if side[2] < 0][0])
                a, b, h = told
                self.assertLessEqual(slow_support(one, a, b) - h, -slow_support(two, -a, -b))
        self.assertGreater(found, 100)

    def test_apart_takes_the_first_side(self):
        # Beyond a corner two sides part them; the first one of the sum's sides is told.
        self.assertEqual(apart(SQUARE, moved(SQUARE, (5, 5, 1))), (1, 0, -3))
        self.assertEqual(apart(SQUARE, moved(SQUARE, (5, -5, 1))), (0, -1, -3))
        self.assertEqual(apart(((0, 0, 1),), ((-3, -4, 1),)), (-1, 0, -3))
        self.assertEqual(apart(((0, 0, 1),), ((3, 4, 1),)), (1, 0, -3))
        self.assertIsNone(apart(SQUARE, moved(SQUARE, (2, 2, 1))))
        self.assertIsNone(apart(SQUARE, DOT))

    def test_areas(self):
        self.assertEqual([area_of(DOT), area_of(STRETCH), area_of(HALF), area_of(SQUARE), area_of(KITE)],
                         [(0, 1), (0, 1), (1, 2), (4, 1), (8, 1)])
        for polygon in SHAPES + some_polygons(18, 50):
            spots = spots_of(polygon)
            twice = sum(cross(spots[0], spots[k], spots[k + 1]) for k in range(1, len(spots) - 1))
            self.assertEqual(area_of(polygon), pair(Fraction(twice) / 2))
            self.assertTrue(is_fraction(area_of(polygon)))

    def test_middles(self):
        self.assertEqual([middle_of(DOT), middle_of(STRETCH), middle_of(HALF), middle_of(SQUARE)],
                         [(1, 1, 2), (1, 2, 2), (1, 1, 3), (1, 1, 1)])
        for polygon in some_polygons(19, 50):
            spots = spots_of(polygon)
            self.assertEqual(middle_of(polygon), pt(sum(x for x, y in spots) / len(spots),
                                                    sum(y for x, y in spots) / len(spots)))


class WrongArguments(unittest.TestCase):
    def test_one_polygon(self):
        for call in (sides_of, opposite_of, area_of, middle_of):
            check_arguments(self, call, [POLYGON])

    def test_two_polygons(self):
        for call in (sum_of, common_part, lies_inside, apart):
            check_arguments(self, call, [POLYGON, OTHER])

    def test_a_point_beside(self):
        for call in (holds, is_within, moved):
            check_arguments(self, call, [POLYGON, ("point", (1, 2, 3), WRONG_POINTS)])

    def test_a_normal_beside(self):
        for call in (support_of, far_corners):
            check_arguments(self, call, [POLYGON, ("normal", (2, 4), WRONG_NORMALS)])

    def test_a_side_or_a_fraction_beside(self):
        check_arguments(self, cut_by, [POLYGON, ("side", (1, 1, 1), WRONG_SIDES)])
        check_arguments(self, scaled, [POLYGON, ("fraction", (3, 2), WRONG_FACTORS)])

    def test_two_wrong_ones(self):
        for value in ANY:
            if value is not None:
                check_raised(self, InvalidPolygon, "given", value, scaled, value, (-1, 1))


if __name__ == "__main__":
    unittest.main()
