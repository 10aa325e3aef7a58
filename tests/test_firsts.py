"""[39] to [41]: leads, who is first in a polygon, on the whole sea, along a stretch."""
import random
import unittest
from fractions import Fraction

from tests.helpers import (NOT_POINT, NOT_POLYGON, check_arguments, check_raised, edges, in_hull, meeting, num, pair,
                           pt, random_point, random_polygon, slow_hull, slow_sides, slow_way_time, spot, wrong_given,
                           wrong_index)
from tests.slow import random_starter_figure
from tests.wrong import BOX, DIAMOND, KITE, NOT_STARTER, WRONG_STARTERS
from windfigure.errors import InvalidPoint, InvalidPolygon, InvalidStarter, InvalidStarters, Same
from windfigure.firsts import (first_parts, firsts_at, greatest_lead, head_start, is_first_in, lead, least_lead,
                               shares_of, time_at)
from windfigure.points import is_fraction, is_point
from windfigure.polygons import is_polygon

HOME = (0, 0, 1)
ONE, TWO = (DIAMOND, HOME), (BOX, (4, 0, 1))
FIELD = ((0, 0, 1), (2, 0, 1), (2, 2, 1), (0, 2, 1))
FAST = ((-2, -2, 1), (2, -2, 1), (2, 2, 1), (-2, 2, 1))
NONE_THERE = (None, None, None, None)


def slow_lead(starter, other, place):
    return slow_way_time(other[0], other[1], place) - slow_way_time(starter[0], starter[1], place)


def ray_cuts(start, velocity, polygon):
    """Where the ray from the start along the velocity crosses the edges of the polygon, as spots."""
    (x, y), (u, v) = start, velocity
    # So long that it leaves each polygon of these tests.
    end = (x + 1000 * u, y + 1000 * v)
    spots = [spot(corner) for corner in polygon]
    if len(spots) == 1:
        return []
    found = [meeting(start, end, a, b) for a, b in edges(spots)]
    return [place for place in found if place is not None]


def slow_part_corners(other, polygon):
    """Where the parts by the other one's figure can have corners: the parts meet along rays from its start."""
    start, spots = spot(other[1]), [spot(corner) for corner in polygon]
    found = list(spots)
    if in_hull(start, spots):
        found.append(start)
    for corner in other[0]:
        found += ray_cuts(start, spot(corner), polygon)
    return [pt(*place) for place in found]


def random_starter(rng):
    figure = rng.choice([KITE, DIAMOND, BOX, FAST]) if rng.random() < 0.5 else random_starter_figure(rng)
    return (figure, random_point(rng, 3, (1, 1, 2)))


def random_two(rng):
    """Two starters: at one place, with one figure, with figures inside one another, now and then."""
    starter, other = random_starter(rng), random_starter(rng)
    kind = rng.choice(("any", "any", "place", "figure", "same", "inside"))
    if kind == "place":
        other = (other[0], starter[1])
    if kind == "figure":
        other = (starter[0], other[1])
    if kind == "same":
        other = starter
    if kind == "inside":
        inner = slow_hull([pt(x / 2, y / 2) for x, y in map(spot, starter[0])])
        starter, other = rng.choice([((starter[0], starter[1]), (inner, other[1])),
                                     ((inner, starter[1]), (starter[0], other[1]))])
    return starter, other


def random_places(rng, polygon, many):
    """Points of the polygon, its corners among them."""
    spots = [spot(corner) for corner in polygon]
    found = list(polygon)
    for _ in range(many):
        weights = [rng.choice((0, 1, 1, 2, 5)) for _ in spots]
        if sum(weights):
            found.append(pt(*[sum(Fraction(weight, sum(weights)) * place[k] for weight, place in zip(weights, spots))
                              for k in (0, 1)]))
    return found


class Times(unittest.TestCase):
    def test_times_and_leads(self):
        self.assertEqual(time_at(ONE, (2, 1, 1)), (3, 1))
        self.assertEqual(lead(ONE, TWO, (2, 1, 1)), (-1, 1))
        self.assertEqual(lead(TWO, ONE, (2, 1, 1)), (1, 1))
        self.assertEqual(time_at(ONE, HOME), (0, 1))
        self.assertEqual(lead(ONE, TWO, (2, 0, 1)), (0, 1))
        self.assertEqual(lead(ONE, TWO, HOME), (4, 1))
        self.assertEqual(lead(ONE, ONE, (7, -5, 3)), (0, 1))

    def test_random_ones(self):
        rng = random.Random(1)
        for _ in range(200):
            starter, other = random_two(rng)
            place = random_point(rng)
            self.assertEqual(time_at(starter, place), pair(slow_way_time(starter[0], starter[1], place)))
            self.assertEqual(lead(starter, other, place), pair(slow_lead(starter, other, place)))
            self.assertEqual(num(lead(starter, other, place)), -num(lead(other, starter, place)))


class Leads(unittest.TestCase):
    def test_examples(self):
        self.assertEqual(least_lead(ONE, TWO, FIELD), ((-2, 1), (2, 2, 1)))
        self.assertEqual(greatest_lead(ONE, TWO, FIELD), ((4, 1), (0, 0, 1)))
        self.assertIs(is_first_in(ONE, TWO, FIELD), False)
        self.assertIs(is_first_in(ONE, TWO, ((0, 0, 1), (2, 0, 1))), True)
        self.assertIs(is_first_in(TWO, ONE, ((2, 0, 1), (4, 0, 1), (2, 2, 1))), True)
        self.assertIs(is_first_in(TWO, ONE, ((19999, 0, 10000), (4, 0, 1), (2, 2, 1))), False)

    def test_points(self):
        for place in ((0, 0, 1), (4, 0, 1), (2, 1, 1), (-7, 5, 3)):
            self.assertEqual(least_lead(ONE, TWO, (place,)), (lead(ONE, TWO, place), place))
            self.assertEqual(greatest_lead(ONE, TWO, (place,)), (lead(ONE, TWO, place), place))

    def test_the_least_is_in_the_midst_of_an_edge_or_within(self):
        field = ((0, -3, 1), (9, -3, 1), (9, 3, 1), (0, 3, 1))
        self.assertEqual(least_lead(ONE, TWO, field)[0], (-7, 1))
        self.assertEqual(least_lead((DIAMOND, (4, 0, 1)), (DIAMOND, (4, 1, 1)), field)[0], (-1, 1))
        # At the other one's start, which is a corner of parts alone.
        small = ((3, -1, 1), (5, -1, 1), (5, 1, 1), (3, 1, 1))
        self.assertEqual(least_lead((FAST, HOME), (FAST, (4, 0, 1)), small)[0], (-2, 1))
        self.assertEqual(least_lead((KITE, HOME), (FAST, (4, 0, 1)), ((4, -3, 1), (4, 3, 1))), ((-4, 3), (4, 0, 1)))
        # On the midst of an edge, where a ray through a corner leaves.
        self.assertEqual(least_lead((FAST, (2, 0, 1)), (DIAMOND, HOME), ((2, -3, 1), (2, 3, 1))), ((2, 1), (2, 0, 1)))
        self.assertEqual(least_lead((FAST, (2, 3, 1)), (BOX, (2, -9, 1)), ((-9, 3, 1), (13, 3, 1)))[0], (13, 2))
        self.assertEqual(greatest_lead((BOX, (2, 1, 1)), (FAST, (2, 1, 1)), FIELD), ((0, 1), (2, 1, 1)))

    def test_random_ones(self):
        rng = random.Random(2)
        inner = {"corner": 0, "part": 0}
        for _ in range(250):
            starter, other = random_two(rng)
            polygon = random_polygon(rng, 5, 4, (1, 1, 2))
            if rng.random() < 0.1:
                polygon = (other[1],)
            found, place = least_lead(starter, other, polygon)
            self.assertTrue(is_fraction(found) and is_point(place))
            self.assertTrue(in_hull(spot(place), [spot(corner) for corner in polygon]))
            self.assertEqual(lead(starter, other, place), found)
            least = min(slow_lead(starter, other, corner) for corner in slow_part_corners(other, polygon))
            self.assertEqual(found, pair(least))
            inner["corner" if least == min(slow_lead(starter, other, corner) for corner in polygon) else "part"] += 1
            self.assertIs(is_first_in(starter, other, polygon), least >= 0)
            most, farthest = greatest_lead(starter, other, polygon)
            self.assertEqual(lead(starter, other, farthest), most)
            self.assertTrue(in_hull(spot(farthest), [spot(corner) for corner in polygon]))
            self.assertEqual(most, pair(-min(slow_lead(other, starter, corner)
                                             for corner in slow_part_corners(starter, polygon))))
            for some in random_places(rng, polygon, 4):
                self.assertTrue(least <= slow_lead(starter, other, some) <= num(most))
        self.assertGreater(min(inner.values()), 10, inner)


def slow_sides_met(starter, place):
    """The indexes of the sides that tell the time of the way to the place."""
    figure, start = starter
    (x, y), (u, v) = spot(start), spot(place)
    times = [(a * (u - x) + b * (v - y)) / h for a, b, h in slow_sides(figure)]
    return [index for index in range(len(times)) if times[index] == max(times)]


class Parts(unittest.TestCase):
    def test_examples(self):
        self.assertEqual(first_parts(ONE, TWO, FIELD), (None, None, None, ((0, 0, 1), (2, 0, 1), (1, 2, 1), (0, 2, 1))))
        # The box's sides are those to the south, east, north, west.
        self.assertEqual(first_parts(TWO, TWO, ((3, 0, 1), (5, 0, 1))), (
            ((4, 0, 1),), ((4, 0, 1), (5, 0, 1)), ((4, 0, 1),), ((3, 0, 1), (4, 0, 1))))
        self.assertEqual(first_parts((FAST, (4, 0, 1)), TWO, ((5, 1, 1),)), (None, ((5, 1, 1),), ((5, 1, 1),), None))

    def test_first_nowhere_and_at_a_point(self):
        self.assertEqual(first_parts((DIAMOND, (9, 0, 1)), TWO, FIELD), NONE_THERE)
        self.assertEqual(first_parts(ONE, (FAST, HOME), ((-1, -1, 1), (1, -1, 1), (1, 1, 1), (-1, 1, 1))),
                         (((0, 0, 1),),) * 4)
        self.assertEqual(first_parts(ONE, (BOX, HOME), ((0, -1, 1), (3, -1, 1), (3, 2, 1), (0, 2, 1))),
                         (((0, -1, 1), (0, 0, 1)), ((0, 0, 1), (3, 0, 1)), ((0, 0, 1), (0, 2, 1)), ((0, 0, 1),)))

    def test_random_ones(self):
        rng = random.Random(3)
        seen = {}
        for _ in range(200):
            starter, other = random_two(rng)
            polygon = random_polygon(rng, 5, 4, (1, 1, 2))
            found = first_parts(starter, other, polygon)
            self.assertEqual(len(found), len(other[0]))
            for part in found:
                kind = None if part is None else min(3, len(part))
                seen[kind] = seen.get(kind, 0) + 1
                self.assertTrue(part is None or is_polygon(part))
            places = random_places(rng, polygon, 12) + slow_part_corners(other, polygon)
            places += [corner for part in found if part is not None for corner in part]
            places += [pt((x + u) / 2, (y + v) / 2) for one, two in zip(places, places[1:])
                       for (x, y), (u, v) in [(spot(one), spot(two))]]
            for place in places:
                self.assertTrue(in_hull(spot(place), [spot(corner) for corner in polygon]))
                met, first = slow_sides_met(other, place), slow_lead(starter, other, place) >= 0
                for index, part in enumerate(found):
                    inside = part is not None and in_hull(spot(place), [spot(corner) for corner in part])
                    self.assertIs(inside, first and index in met)
        self.assertGreater(min(seen.values()), 20, seen)


class HeadStarts(unittest.TestCase):
    def test_examples(self):
        self.assertIsNone(head_start(ONE, TWO))
        self.assertEqual(head_start((BOX, HOME), (DIAMOND, (3, 1, 1))), (3, 1))

    def test_same_touching_and_inner_figures(self):
        self.assertEqual(head_start(ONE, ONE), (0, 1))
        self.assertEqual(head_start(ONE, (DIAMOND, (1, 2, 1))), (3, 1))
        self.assertEqual(head_start((BOX, (1, 1, 1)), (DIAMOND, (1, 1, 1))), (0, 1))
        self.assertEqual(head_start((FAST, HOME), (BOX, (1, -3, 2))), (3, 4))
        self.assertIsNone(head_start((DIAMOND, HOME), (BOX, HOME)))
        beyond = ((-1, 0, 1), (0, -1, 1), (10 ** 20 + 1, 0, 10 ** 20), (0, 1, 1))
        self.assertIsNone(head_start(ONE, (beyond, HOME)))
        # The way back takes another time.
        self.assertEqual(head_start((KITE, HOME), (KITE, (3, 0, 1))), (1, 1))
        self.assertEqual(head_start((KITE, (3, 0, 1)), (KITE, HOME)), (3, 1))

    def test_random_ones(self):
        rng = random.Random(4)
        seen = {True: 0, False: 0}
        for _ in range(200):
            starter, other = random_two(rng)
            found = head_start(starter, other)
            spots = [spot(corner) for corner in starter[0]]
            seen[found is None] += 1
            self.assertIs(found is None, not all(in_hull(spot(corner), spots) for corner in other[0]))
            if found is None:
                # Far out along a velocity that the other one alone has any advantage is lost.
                u, v = next(spot(corner) for corner in other[0] if not in_hull(spot(corner), spots))
                self.assertLess(slow_lead(starter, other, pt(10 ** 9 * u, 10 ** 9 * v)), -1000)
                continue
            self.assertEqual(num(found), slow_way_time(starter[0], starter[1], other[1]))
            self.assertEqual(num(found), -slow_lead(starter, other, other[1]))
            for _ in range(5):
                place = random_point(rng, 9)
                self.assertGreaterEqual(slow_lead(starter, other, place) + num(found), 0)
        self.assertGreater(min(seen.values()), 50, seen)


def slow_shares(starters, begin, end):
    """The stretches by all shares at which two linear times can be equal, and what lies between these."""
    (x, y), (u, v) = spot(begin), spot(end)
    lines = []
    for figure, start in starters:
        p, q = spot(start)
        lines += [((a * (x - p) + b * (y - q)) / h, (a * (u - x) + b * (v - y)) / h) for a, b, h in slow_sides(figure)]
    shares = {Fraction(0), Fraction(1)}
    for still, pace in lines:
        for its_still, its_pace in lines:
            if pace != its_pace:
                shares.add((its_still - still) / (pace - its_pace))
    shares = sorted(share for share in shares if 0 <= share <= 1)
    shares += [(one + two) / 2 for one, two in zip(shares, shares[1:])]
    shares = sorted(shares)
    rows = [[slow_way_time(figure, start, pt(x + share * (u - x), y + share * (v - y))) for figure, start in starters]
            for share in shares]
    found = []
    for k in range(len(starters)):
        # Shares and what lies between them stand by turns: a row of neighbours is a stretch.
        runs, last = [], None
        for at, row in enumerate(rows):
            if row[k] == min(row):
                if last is not None and last == at - 1:
                    runs[-1] = (runs[-1][0], shares[at])
                else:
                    runs.append((shares[at], shares[at]))
                last = at
        found.append(tuple((pair(low), pair(high)) for low, high in runs))
    return tuple(found)


ALL = (((0, 1), (1, 1)),)


class Shares(unittest.TestCase):
    def test_examples(self):
        self.assertEqual(firsts_at((ONE, TWO), (2, 0, 1)), (0, 1))
        self.assertEqual(shares_of((ONE, TWO), (0, 0, 1), (4, 0, 1)), ((((0, 1), (1, 2)),), (((1, 2), (1, 1)),)))

    def test_firsts(self):
        three = (DIAMOND, (-2, 0, 1))
        self.assertEqual(firsts_at((ONE,), (9, 9, 1)), (0,))
        self.assertEqual(firsts_at((ONE, TWO), (1, 0, 1)), (0,))
        self.assertEqual(firsts_at((ONE, TWO), (3, 0, 1)), (1,))
        self.assertEqual(firsts_at((TWO, ONE, three, ONE), (1, 0, 1)), (1, 3))
        self.assertEqual(firsts_at((TWO, ONE, three, ONE), (-1, 1, 1)), (1, 2, 3))
        self.assertEqual(firsts_at((ONE, ONE, ONE, ONE), (2, 1, 1)), (0, 1, 2, 3))
        check_raised(self, InvalidStarters, "index", 4, firsts_at, (ONE,) * 5, (2, 1, 1))

    def test_one_and_all_level(self):
        self.assertEqual(shares_of((ONE,), HOME, (5, 3, 1)), (ALL,))
        self.assertEqual(shares_of((ONE,) * 4, HOME, (5, 3, 1)), (ALL,) * 4)
        # Level along the axis, where both figures end at the same velocities.
        small = slow_hull([(-1, 0, 1), (1, 0, 1), (0, 1, 2), (0, -1, 2)])
        self.assertEqual(shares_of((ONE, (small, HOME)), (-3, 0, 1), (3, 0, 1)), (ALL, ALL))
        self.assertEqual(shares_of((ONE, (small, HOME)), (-3, 1, 1), (3, 1, 1)), (ALL, ()))

    def test_several_stretches_and_single_points(self):
        # The slow one is first near to its own start alone, so the fast one is first on two stretches.
        slow = (slow_hull([(-1, 0, 2), (1, 0, 2), (0, 1, 2), (0, -1, 2)]), (5, 0, 1))
        self.assertEqual(shares_of((ONE, slow), HOME, (20, 0, 1)), (
            (((0, 1), (1, 6)), ((1, 2), (1, 1))), (((1, 6), (1, 2)),)))
        # The other one is first at the very place that both come to at once, and nowhere else.
        self.assertEqual(shares_of((ONE, (FAST, (6, 0, 1))), (-2, 0, 1), (2, 0, 1)), (
            ALL, (((1, 1), (1, 1)),)))
        self.assertEqual(shares_of((ONE, (FAST, (6, 0, 1))), (2, 0, 1), (-2, 0, 1)), (
            ALL, (((0, 1), (0, 1)),)))
        tent = (DIAMOND, (0, 2, 1))
        self.assertEqual(shares_of(((BOX, HOME), tent), (-2, 2, 1), (2, 2, 1)), (
            (((0, 1), (0, 1)), ((1, 1), (1, 1))), ALL))
        self.assertEqual(shares_of(((BOX, HOME), tent), (-4, 2, 1), (4, 2, 1)), (
            (((0, 1), (1, 4)), ((3, 4), (1, 1))), ALL))
        self.assertEqual(shares_of(((BOX, (0, -1, 1)), (FAST, (0, 3, 1))), (-8, 0, 1), (8, 0, 1)), (
            (((13, 32), (19, 32)),), (((0, 1), (13, 32)), ((19, 32), (1, 1)))))

    def test_never_first(self):
        self.assertEqual(shares_of((ONE, (DIAMOND, (0, 1, 1))), (0, -1, 1), (5, -1, 1)), (ALL, ()))

    def test_random_ones(self):
        rng = random.Random(5)
        seen = {"none": 0, "point": 0, "several": 0, "level": 0}
        for _ in range(300):
            starters = random_two(rng) + random_two(rng)
            starters = starters[:rng.randint(1, 4)]
            begin, end = random_point(rng, 4, (1, 1, 2)), random_point(rng, 4, (1, 1, 2))
            if rng.random() < 0.4:
                # Through two starts, or beside one.
                begin = starters[0][1]
            if begin == end:
                continue
            found = shares_of(starters, begin, end)
            self.assertEqual(found, slow_shares(starters, begin, end))
            seen["none"] += () in found
            seen["point"] += any(low == high for runs in found for low, high in runs)
            seen["several"] += any(len(runs) > 1 for runs in found)
            seen["level"] += len(found) > 1 and set(found) == {ALL}
            for share in [Fraction(rng.randint(0, 9), 9) for _ in range(3)]:
                (x, y), (u, v) = spot(begin), spot(end)
                place = pt(x + share * (u - x), y + share * (v - y))
                self.assertEqual(firsts_at(starters, place), tuple(
                    k for k, runs in enumerate(found) if any(num(low) <= share <= num(high) for low, high in runs)))
        self.assertGreater(min(seen.values()), 5, seen)


STARTER_ROW = ("starter", ONE, wrong_given(NOT_STARTER, InvalidStarter))
OTHER_ROW = ("other", TWO, wrong_given(NOT_STARTER, InvalidStarter))
PLACE_ROW = ("place", (2, 1, 1), wrong_given(NOT_POINT, InvalidPoint))
POLYGON_ROW = ("polygon", FIELD, wrong_given(NOT_POLYGON, InvalidPolygon))
STARTERS_ROW = ("starters", (ONE, TWO), wrong_index(WRONG_STARTERS, InvalidStarters))


class WrongArguments(unittest.TestCase):
    def test_places(self):
        check_arguments(self, time_at, [STARTER_ROW, PLACE_ROW])
        check_arguments(self, lead, [STARTER_ROW, OTHER_ROW, PLACE_ROW])
        check_arguments(self, firsts_at, [STARTERS_ROW, PLACE_ROW])

    def test_polygons(self):
        for call in (least_lead, greatest_lead, is_first_in, first_parts):
            check_arguments(self, call, [STARTER_ROW, OTHER_ROW, POLYGON_ROW])

    def test_head_starts(self):
        check_arguments(self, head_start, [STARTER_ROW, OTHER_ROW])

    def test_shares(self):
        begin = (1, 2, 3)
        check_arguments(self, shares_of, [STARTERS_ROW, ("begin", begin, wrong_given(NOT_POINT, InvalidPoint)), (
            "end", HOME, wrong_given(NOT_POINT, InvalidPoint) + wrong_given([begin], Same))])
        check_raised(self, Same, "given", begin, shares_of, (ONE, TWO), begin, begin)
        check_raised(self, InvalidStarters, "index", None, shares_of, (), begin, begin)
        same = (1, 2, 3)
        check_raised(self, Same, "given", same, shares_of, (ONE, TWO), tuple([1, 2, 3]), same)


if __name__ == "__main__":
    unittest.main()
