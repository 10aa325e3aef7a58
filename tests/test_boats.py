"""[24] and [25]: whether a boat is never later, handicaps, and all ways by finitely many directions."""
import random
import unittest

from tests.helpers import (NOT_FIGURE, check_arguments, in_hull, num, random_figure, slow_scaled,
                           slow_time, spot, wrong_given)
from tests.slow import many_directions, random_starter_figure, random_way, reduced, told, turn_key
from tests.wrong import BEAM, BOX, DIAMOND, KITE, WEDGE
from windfigure.boats import compare_ways, handicap, handicap_paper, never_later, parting_way
from windfigure.errors import InvalidFigure
from windfigure.figures import side_met
from windfigure.polygons import sides_of

RUNNER = ((0, 0, 1), (2, 0, 1), (0, 2, 1))
FLAT = ((0, 0, 1), (3, 0, 1), (0, 1, 1))
DOUBLE = ((-2, 0, 1), (0, -2, 1), (2, 0, 1), (0, 2, 1))
FIGURES = [KITE, DIAMOND, BOX, WEDGE, BEAM, RUNNER, FLAT, DOUBLE]


def random_pair(rng):
    """Two figures; at times one inside the other one, with corners shared, or scaled."""
    figure = rng.choice(FIGURES) if rng.random() < 0.4 else random_figure(rng, 3)
    other = rng.choice(FIGURES) if rng.random() < 0.3 else random_figure(rng, 3)
    if rng.random() < 0.2:
        other = slow_scaled(figure, rng.choice((1, 2, 3)) * num((1, rng.choice((1, 2)))))
    return figure, other


def slow_parting(figure, other):
    spots = [spot(corner) for corner in figure]
    missed = [corner for corner in other if not in_hull(spot(corner), spots)]
    return missed[0] if missed else None


class NeverLater(unittest.TestCase):
    def test_inside_beside_and_shared_corners(self):
        self.assertIs(never_later(BOX, DIAMOND), True)
        self.assertIs(never_later(DIAMOND, BOX), False)
        self.assertIs(never_later(BOX, BOX), True)
        self.assertIs(never_later(DOUBLE, BOX), True)
        self.assertIs(never_later(BOX, DOUBLE), False)
        self.assertIs(never_later(KITE, FLAT), True)
        self.assertIs(never_later(KITE, RUNNER), False)
        self.assertIs(never_later(RUNNER, WEDGE), False)
        self.assertIs(never_later(WEDGE, RUNNER), False)
        self.assertIs(never_later(DOUBLE, slow_scaled(DOUBLE, num((10 ** 20 + 1, 10 ** 20)))), False)

    def test_parting_ways(self):
        self.assertEqual(parting_way(DIAMOND, BOX), (-1, -1, 1))
        self.assertEqual(parting_way(BOX, DOUBLE), (-2, 0, 1))
        self.assertEqual(parting_way(WEDGE, RUNNER), (2, 0, 1))
        self.assertEqual(parting_way(KITE, RUNNER), (0, 2, 1))
        self.assertIsNone(parting_way(KITE, FLAT))
        self.assertIsNone(parting_way(BOX, BOX))

    def test_random_ones(self):
        rng = random.Random(1)
        seen = {True: 0, False: 0}
        for _ in range(300):
            figure, other = random_pair(rng)
            slow = slow_parting(figure, other)
            self.assertIs(never_later(figure, other), slow is None)
            self.assertEqual(parting_way(figure, other), slow)
            seen[slow is None] += 1
            for way in [random_way(rng) for _ in range(3)]:
                time, its_time = slow_time(figure, way), slow_time(other, way)
                if slow is None and its_time is not None:
                    self.assertTrue(time is not None and time <= its_time)
            if slow is not None:
                self.assertLessEqual(slow_time(other, slow), 1)
                self.assertTrue(slow_time(figure, slow) is None or slow_time(figure, slow) > 1)
        self.assertGreater(min(seen.values()), 30, seen)


class Handicaps(unittest.TestCase):
    def test_examples(self):
        self.assertEqual(handicap(KITE, RUNNER), (2, 1))
        self.assertEqual(handicap_paper(KITE, RUNNER), ((0, 2, 1), (-1, 1, 1)))
        self.assertIsNone(handicap(RUNNER, KITE))
        self.assertEqual(handicap_paper(RUNNER, KITE), ((-1, 0, 1), (-1, 0, 0)))

    def test_scaled_and_inside(self):
        self.assertEqual(handicap(DIAMOND, DOUBLE), (2, 1))
        self.assertEqual(handicap(DOUBLE, DIAMOND), (1, 2))
        self.assertEqual(handicap(DIAMOND, DIAMOND), (1, 1))
        self.assertEqual(handicap(DIAMOND, BOX), (2, 1))
        self.assertEqual(handicap(BOX, DIAMOND), (1, 1))
        # Each corner of the box takes as long: the first one is told, with the first of its sides.
        self.assertEqual(handicap_paper(DIAMOND, BOX), ((-1, -1, 1), (-1, -1, 1)))
        self.assertEqual(handicap_paper(BOX, DIAMOND), ((-1, 0, 1), (-1, 0, 1)))
        self.assertEqual(handicap_paper(BOX, BOX), ((-1, -1, 1), (0, -1, 1)))

    def test_endless_ones(self):
        for figure in (WEDGE, RUNNER, FLAT, BEAM):
            for other in (KITE, BOX, DIAMOND):
                self.assertIsNone(handicap(figure, other))
        self.assertEqual(handicap_paper(BEAM, DIAMOND), ((0, -1, 1), (0, -1, 0)))
        # The first corner that is endless, though another one comes before it.
        self.assertEqual(handicap_paper(WEDGE, RUNNER), ((0, 2, 1), (-1, 1, 0)))
        self.assertEqual(handicap_paper(RUNNER, WEDGE), ((1, -1, 1), (0, -1, 0)))
        self.assertEqual(handicap_paper(RUNNER, BOX), ((-1, -1, 1), (0, -1, 0)))
        # Nought is a corner of the other one, and takes no time.
        self.assertEqual(handicap_paper(RUNNER, FLAT), ((3, 0, 1), (1, 1, 2)))

    def test_random_ones(self):
        rng = random.Random(2)
        none = 0
        for _ in range(300):
            figure, other = random_pair(rng)
            times = [slow_time(figure, corner) for corner in other]
            worst = None if None in times else max(times)
            self.assertEqual(handicap(figure, other), told(worst))
            corner, side = handicap_paper(figure, other)
            self.assertEqual(corner, other[times.index(worst)])
            if worst is None:
                none += 1
                x, y = spot(corner)
                self.assertEqual(side, [(a, b, h) for a, b, h in sides_of(figure) if h == 0 and a * x + b * y > 0][0])
            else:
                self.assertEqual(side, side_met(figure, corner))
                spots = [spot(p) for p in slow_scaled(figure, worst)]
                self.assertTrue(all(in_hull(spot(p), spots) for p in other))
                spots = [spot(p) for p in slow_scaled(figure, worst * num((999, 1000)))]
                self.assertFalse(all(in_hull(spot(p), spots) for p in other))
        self.assertTrue(50 < none < 250)

    def test_both_towards_each_other(self):
        rng = random.Random(3)
        for _ in range(60):
            one, two = random_starter_figure(rng), random_starter_figure(rng)
            if rng.random() < 0.3:
                two = slow_scaled(one, num((rng.randint(1, 9), rng.choice((1, 2, 7)))) if rng.random() < 0.5 else 3)
            product = num(handicap(one, two)) * num(handicap(two, one))
            alike = slow_scaled(one, num(handicap(one, two))) == two
            self.assertTrue(product == 1 if alike else product > 1)


def slow_compared(figure, other, direction):
    time, its_time = [slow_time(boat, (direction[0], direction[1], 1)) for boat in (figure, other)]
    if time == its_time:
        return "neither" if time is None else "level"
    return "sooner" if its_time is None or (time is not None and time < its_time) else "later"


def paces_of(*figures):
    return sorted({reduced(*spot(p)) for figure in figures for p in figure if p != (0, 0, 1)}, key=turn_key)


class Comparisons(unittest.TestCase):
    def test_examples(self):
        self.assertEqual(compare_ways(RUNNER, FLAT), (((1, 0), "later", "later"), ((3, 1), "level", "sooner"),
                                                      ((0, 1), "sooner", "neither")))
        self.assertEqual(compare_ways(FLAT, RUNNER), (((1, 0), "sooner", "sooner"), ((3, 1), "level", "later"),
                                                      ((0, 1), "later", "neither")))

    def test_boats_that_are_alike(self):
        for figure in FIGURES:
            found = compare_ways(figure, figure)
            self.assertEqual([row[0] for row in found], paces_of(figure))
            self.assertTrue(all(row[1] == "level" and row[2] in ("level", "neither") for row in found))
        self.assertEqual([row[1:] for row in compare_ways(WEDGE, WEDGE)], [("level", "neither"), ("level", "level")])
        self.assertEqual([row[1:] for row in compare_ways(BEAM, BEAM)],
                         [("level", "level"), ("level", "level"), ("level", "neither")])
        self.assertTrue(all(row[1:] == ("sooner", "sooner") for row in compare_ways(DOUBLE, DIAMOND)))

    def test_level_at_paces_and_between_them(self):
        self.assertEqual(compare_ways(BOX, DIAMOND)[:3], (((1, 0), "level", "sooner"), ((1, 1), "sooner", "sooner"),
                                                          ((0, 1), "level", "sooner")))
        found = compare_ways(BOX, slow_scaled(DIAMOND, num((3, 2))))
        self.assertEqual(found[:4], (((1, 0), "later", "later"), ((2, 1), "level", "sooner"),
                                     ((1, 1), "sooner", "sooner"), ((1, 2), "level", "later")))
        self.assertEqual(len(found), 16)
        # The second tie lies on the last stretch, through (1, 0).
        self.assertEqual(found[-1], ((2, -1), "level", "later"))

    def test_more_than_half_a_turn(self):
        self.assertEqual(compare_ways(WEDGE, RUNNER), (
            ((1, 0), "later", "later"), ((1, 1), "level", "later"), ((0, 1), "later", "neither"),
            ((1, -1), "sooner", "sooner")))

    def test_random_ones(self):
        rng = random.Random(4)
        words, ties = {}, 0
        for _ in range(200):
            figure, other = random_pair(rng)
            found = compare_ways(figure, other)
            paces = paces_of(figure, other)
            self.check_rows(figure, other, found, paces)
            for direction, word, later in found:
                words[word, later] = words.get((word, later), 0) + 1
                ties += direction not in paces
        self.assertGreater(ties, 50)
        self.assertEqual({word for key in words for word in key}, {"sooner", "later", "level", "neither"})

    def check_rows(self, figure, other, found, paces):
        directions = [row[0] for row in found]
        self.assertEqual(sorted(set(directions), key=turn_key), directions)
        self.assertLessEqual(set(paces), set(directions))
        words = {}
        for k, (direction, word, later) in enumerate(found):
            words[direction] = word
            self.assertEqual(word, slow_compared(figure, other, direction))
            if direction not in paces:
                # Level here alone, and with times.
                self.assertEqual(word, "level")
                self.assertNotEqual(later, "level")
                self.assertNotEqual(found[k - 1][2], "level")
        ordered = many_directions(*directions)
        begin = ordered.index(directions[0])
        later = None
        for direction in ordered[begin:] + ordered[:begin]:
            if direction in words:
                later = found[directions.index(direction)][2]
            else:
                self.assertEqual(slow_compared(figure, other, direction), later)


class WrongArguments(unittest.TestCase):
    def test_two_boats(self):
        rows = [("figure", KITE, wrong_given(NOT_FIGURE, InvalidFigure)),
                ("other", BOX, wrong_given(NOT_FIGURE, InvalidFigure))]
        for call in (never_later, parting_way, handicap, handicap_paper, compare_ways):
            check_arguments(self, call, rows)


if __name__ == "__main__":
    unittest.main()
