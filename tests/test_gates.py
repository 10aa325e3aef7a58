"""[31] and [32]: starters, gates, and the soonest crossings."""
import random
import unittest
from fractions import Fraction
from itertools import product

from tests.helpers import (NO_TUPLES, NOT_POINT, check_arguments, check_raised, in_hull, num, pair, pt, random_point,
                           slow_time, spot, wrong_given, wrong_index)
from tests.slow import random_starter_figure, slow_route_time
from tests.wrong import BEAM, BOX, DIAMOND, KITE, NOT_STARTER, WEDGE, WRONG_GATES
from windfigure.errors import InvalidCrossing, InvalidGates, InvalidPoint, InvalidStarter
from windfigure.gates import crossing_time, gate_time, is_starter, kinks_of, soonest_crossing
from windfigure.points import is_fraction, is_time

HOME, AWAY = (0, 0, 1), (4, 0, 1)
GATE = ((2, 1, 1), (2, 5, 1))
BOXER, DIVER = (BOX, HOME), (DIAMOND, HOME)


def at_share(gate, share):
    (x, y), (u, v) = spot(gate[0]), spot(gate[1])
    return pt(x + share * (u - x), y + share * (v - y))


def random_gate(rng):
    while True:
        gate = (random_point(rng, 3, (1, 1, 2)), random_point(rng, 3, (1, 1, 2)))
        if gate[0] != gate[1]:
            return gate


def random_gates(rng, most=4):
    """Gates that are the same, share an end, lie in one line or are parallel, now and then."""
    gates = [random_gate(rng)]
    while len(gates) < most and rng.random() < 0.7:
        (x, y), (u, v) = spot(gates[-1][0]), spot(gates[-1][1])
        kind = rng.choice(("same", "turned", "end", "line", "parallel", "cross", "any", "any", "any", "any"))
        if kind == "same":
            gates.append(gates[-1])
        elif kind == "turned":
            gates.append(gates[-1][::-1])
        elif kind == "end":
            gates.append((gates[-1][1], pt(u + 1, v - 2)))
        elif kind == "line":
            gates.append((at_share(gates[-1], Fraction(1, 2)), at_share(gates[-1], rng.choice((-1, 2, 3)))))
        elif kind == "parallel":
            gates.append((pt(x + 1, y + 1), pt(u + 1, v + 1)))
        elif kind == "cross":
            (s, t) = spot(at_share(gates[-1], Fraction(1, 3)))
            gates.append((pt(s + 1, t - 1), pt(s - 2, t + 2)))
        else:
            gates.append(random_gate(rng))
    return tuple(gates)


def random_case(rng, most=4):
    figure = rng.choice([KITE, DIAMOND, BOX]) if rng.random() < 0.4 else random_starter_figure(rng)
    return (figure, random_point(rng, 3, (1, 1, 2))), random_gates(rng, most)


class Starters(unittest.TestCase):
    def test_starters(self):
        for figure in (KITE, DIAMOND, BOX):
            for start in (HOME, (1, 2, 3), (-10 ** 40, 1, 7)):
                self.assertIs(is_starter((figure, start)), True)
                self.assertIs(is_starter(value=(figure, start)), True)
        rng = random.Random(1)
        for _ in range(50):
            self.assertIs(is_starter((random_starter_figure(rng), random_point(rng))), True)

    def test_no_starters(self):
        for value in NOT_STARTER:
            self.assertIs(is_starter(value), False)
        # Nought is a corner, or lies on a side.
        for figure in (WEDGE, BEAM, ((-1, -1, 1), (1, 1, 1), (0, 2, 1))):
            self.assertIs(is_starter((figure, HOME)), False)


class Kinks(unittest.TestCase):
    def test_one_gate(self):
        self.assertEqual(kinks_of(BOXER, (GATE,)), (((0, 1), (2, 1)), ((1, 4), (2, 1)), ((1, 1), (5, 1))))
        # No kink: along the diamond's edge the time grows evenly.
        self.assertEqual(kinks_of(DIVER, (GATE,)), (((0, 1), (3, 1)), ((1, 1), (7, 1))))
        # The other way round.
        self.assertEqual(kinks_of(BOXER, (GATE[::-1],)), (((0, 1), (5, 1)), ((3, 4), (2, 1)), ((1, 1), (2, 1))))
        # The start lies on the gate: nought, and no corner on either side.
        self.assertEqual(kinks_of(DIVER, (((-1, 0, 1), (3, 0, 1)),)), (((0, 1), (1, 1)), ((1, 4), (0, 1)), ((1, 1), (3, 1))))
        self.assertEqual(kinks_of((BOX, (2, 1, 1)), (GATE,)), (((0, 1), (0, 1)), ((1, 1), (4, 1))))
        # The gate goes straight away from the start, along a corner, and along none.
        self.assertEqual(kinks_of(DIVER, (((1, 0, 1), (3, 0, 1)),)), (((0, 1), (1, 1)), ((1, 1), (3, 1))))
        self.assertEqual(kinks_of(DIVER, (((1, 1, 1), (3, 3, 1)),)), (((0, 1), (2, 1)), ((1, 1), (6, 1))))

    def test_kinks_at_the_ends_are_told_once(self):
        self.assertEqual(kinks_of(BOXER, (((2, 2, 1), (2, -2, 1)),)), (((0, 1), (2, 1)), ((1, 1), (2, 1))))

    def test_several_gates(self):
        # By the way the point of the second gate is nearest where the lines meet.
        first, second = ((1, -1, 1), (1, 1, 1)), ((0, 0, 1), (2, 0, 1))
        self.assertEqual(kinks_of(DIVER, (first, second)), (((0, 1), (2, 1)), ((1, 2), (1, 1)), ((1, 1), (2, 1))))
        # Beyond the first gate's ends nothing stays open.
        self.assertEqual(kinks_of(DIVER, (((0, 1, 1), (0, 2, 1)), ((-1, 0, 1), (1, 0, 1)))),
                         (((0, 1), (3, 1)), ((1, 2), (2, 1)), ((1, 1), (3, 1))))
        self.assertEqual(kinks_of(BOXER, (GATE, GATE)), kinks_of(BOXER, (GATE,)))
        self.assertEqual(kinks_of(BOXER, (GATE, GATE[::-1], GATE, GATE)), kinks_of(BOXER, (GATE,)))
        # Two gates in one line, apart from each other.
        line = (((1, 0, 1), (2, 0, 1)), ((5, 0, 1), (3, 0, 1)))
        self.assertEqual(kinks_of(DIVER, line), (((0, 1), (5, 1)), ((1, 1), (3, 1))))
        self.assertEqual(kinks_of(DIVER, line[::-1]), (((0, 1), (5, 1)), ((1, 1), (4, 1))))

    def test_random_ones(self):
        rng = random.Random(2)
        inner = {}
        for _ in range(200):
            starter, gates = random_case(rng)
            found = kinks_of(starter, gates)
            self.assertIsInstance(found, tuple)
            self.assertTrue(all(is_fraction(share) and is_time(time) for share, time in found))
            rows = [(num(share), num(time)) for share, time in found]
            self.assertEqual((rows[0][0], rows[-1][0]), (0, 1))
            slopes = [(two[1] - one[1]) / (two[0] - one[0]) for one, two in zip(rows, rows[1:])]
            # It is convex, and it bends at each kink that is told.
            self.assertEqual(slopes, sorted(set(slopes)))
            inner[len(gates)] = inner.get(len(gates), 0) + len(rows) - 2
            shares = [Fraction(rng.randint(0, 24), 24) for _ in range(3)] + [share for share, time in rows]
            shares += [(one[0] + two[0]) / 2 for one, two in zip(rows, rows[1:])]
            for share in shares:
                k = max(1, min(at for at in range(len(rows)) if rows[at][0] >= share))
                told = rows[k - 1][1] + slopes[k - 1] * (share - rows[k - 1][0])
                self.assertEqual(told, self.time_to(starter, gates, at_share(gates[-1], share)))
        self.assertGreater(min(inner.values()), 5, inner)
        self.assertEqual(set(inner), {1, 2, 3, 4})

    def time_to(self, starter, gates, point):
        if len(gates) == 1:
            return slow_route_time(starter[0], (starter[1], point))
        return num(gate_time(starter, gates[:-1], point))


class Times(unittest.TestCase):
    def test_through_ends_and_the_midst(self):
        self.assertEqual(gate_time(BOXER, (GATE,), AWAY), (4, 1))
        self.assertEqual(gate_time(DIVER, (GATE,), AWAY), (6, 1))
        self.assertEqual(soonest_crossing(DIVER, (GATE,), AWAY), ((2, 1, 1),))
        self.assertEqual(soonest_crossing(DIVER, (GATE[::-1],), AWAY), ((2, 1, 1),))
        self.assertEqual(soonest_crossing(DIVER, (((2, 11, 1), (2, 10, 1)),), (4, 9, 1)), ((2, 10, 1),))
        # In the midst alone: the way along a corner of the first leg, then that of the last one.
        slanted = ((-3, 1, 1), (5, 3, 1))
        goal = (0, 4, 1)
        self.assertEqual(gate_time(DIVER, (slanted,), goal), (4, 1))
        self.assertEqual(soonest_crossing(DIVER, (slanted,), goal), ((0, 7, 4),))
        # A gate through which the boat has to go out of its way and back.
        self.assertEqual(gate_time(DIVER, (((-3, -1, 1), (-3, 1, 1)),), (0, 0, 1)), (6, 1))
        self.assertEqual(soonest_crossing(DIVER, (((-3, -1, 1), (-3, 1, 1)),), (0, 0, 1)), ((-3, 0, 1),))

    def test_four_gates(self):
        gates = (((1, 1, 1), (1, 3, 1)), ((2, -1, 1), (2, -3, 1)), ((3, 1, 1), (3, 3, 1)), ((4, -1, 1), (4, -3, 1)))
        self.assertEqual(gate_time(DIVER, gates, (5, 0, 1)), (13, 1))
        self.assertEqual(soonest_crossing(DIVER, gates, (5, 0, 1)), ((1, 1, 1), (2, -1, 1), (3, 1, 1), (4, -1, 1)))
        self.assertEqual(crossing_time(DIVER, gates, ((1, 1, 1), (2, -1, 1), (3, 1, 1), (4, -1, 1)), (5, 0, 1)), (13, 1))
        check_raised(self, InvalidGates, "index", 4, gate_time, DIVER, gates + (GATE,), (5, 0, 1))

    def test_the_way_back_takes_another_time(self):
        self.assertEqual(gate_time((KITE, HOME), (((3, 0, 1), (4, 0, 1)),), HOME), (4, 1))
        self.assertEqual(gate_time((KITE, HOME), (((-3, 0, 1), (-4, 0, 1)),), HOME), (4, 1))
        self.assertEqual(gate_time((KITE, (6, 0, 1)), (((3, 0, 1), (4, 0, 1)),), HOME), (6, 1))

    def test_random_ones(self):
        rng = random.Random(3)
        for _ in range(150):
            starter, gates = random_case(rng)
            goal = random_point(rng, 3, (1, 1, 2))
            time, crossing = gate_time(starter, gates, goal), soonest_crossing(starter, gates, goal)
            self.assertEqual(len(crossing), len(gates))
            shares = [share_of(gate, point) for gate, point in zip(gates, crossing)]
            self.assertEqual(time, crossing_time(starter, gates, crossing, goal))
            self.assertEqual(num(time), slow_route_time(starter[0], (starter[1],) + crossing + (goal,)))
            self.check_least(rng, starter, gates, goal, num(time), shares)

    def check_least(self, rng, starter, gates, goal, time, shares):
        """No crossing nearby is sooner, so none is, as the time is convex; nor one far away."""
        near = [[share] + [new for new in (share - Fraction(1, 997), share + Fraction(1, 997)) if 0 <= new <= 1]
                for share in shares]
        tried = list(product(*near))
        tried += [[Fraction(rng.randint(0, 12), 12) for _ in shares] for _ in range(20)]
        for _ in range(20):
            step = [Fraction(rng.randint(-9, 9), 9000) for _ in shares]
            tried.append([min(Fraction(1), max(Fraction(0), share + part)) for share, part in zip(shares, step)])
        for row in tried:
            route = (starter[1],) + tuple(at_share(gate, share) for gate, share in zip(gates, row)) + (goal,)
            self.assertGreaterEqual(slow_route_time(starter[0], route), time)


def share_of(gate, point):
    (x, y), (u, v), (s, t) = spot(gate[0]), spot(gate[1]), spot(point)
    share = (s - x) / (u - x) if u != x else (t - y) / (v - y)
    assert 0 <= share <= 1 and at_share(gate, share) == point
    return share


class Crossings(unittest.TestCase):
    def test_times(self):
        self.assertEqual(crossing_time(DIVER, (GATE,), ((2, 3, 1),), AWAY), (10, 1))
        self.assertEqual(crossing_time(DIVER, (GATE,), ((2, 1, 1),), AWAY), (6, 1))
        self.assertEqual(crossing_time(DIVER, (GATE,), ((2, 5, 1),), AWAY), (14, 1))
        self.assertEqual(crossing_time(DIVER, (GATE, GATE), ((2, 5, 1), (2, 1, 1)), AWAY), (14, 1))
        self.assertEqual(crossing_time(DIVER, (GATE, GATE), ((2, 2, 1), (2, 2, 1)), (2, 2, 1)), (4, 1))
        rng = random.Random(4)
        for _ in range(100):
            (figure, start), gates = random_case(rng)
            goal = random_point(rng)
            crossing = tuple(at_share(gate, Fraction(rng.randint(0, 7), 7)) for gate in gates)
            self.assertEqual(crossing_time((figure, start), gates, crossing, goal),
                             pair(slow_route_time(figure, (start,) + crossing + (goal,))))

    def test_beside_a_gate_and_beyond_its_ends(self):
        gates = (GATE, ((3, 3, 1), (5, 4, 1)))
        right = ((2, 3, 1), (8, 7, 2))
        crossing_time(DIVER, gates, right, AWAY)
        rows = [((right[0],), None), (right + (right[1],), None), ((), None), (list(right), None), (None, None)]
        for wrong in ((2, 0, 1), (2, 10 ** 20 - 1, 10 ** 20), (2, 51, 10), (1, 3, 1), (20001, 30000, 10000), (3, 3, 1)):
            rows.append(((wrong, right[1]), 0))
            rows.append(((wrong, None), 0))
        for wrong in ((1, 2, 1), (7, 5, 1), (4, 3, 1), (4, 4, 1), (2, 3, 1), (3, 4, 1), (5, 3, 1)):
            rows.append(((right[0], wrong), 1))
        for crossing, index in rows:
            check_raised(self, InvalidCrossing, "index", index, crossing_time, DIVER, gates, crossing, AWAY)


STARTER_ROW = ("starter", BOXER, wrong_given(NOT_STARTER, InvalidStarter))
GATES_ROW = ("gates", (GATE, ((3, 3, 1), (5, 4, 1))), wrong_index(WRONG_GATES, InvalidGates))
GOAL_ROW = ("goal", AWAY, wrong_given(NOT_POINT, InvalidPoint))
RIGHT = ((2, 3, 1), (8, 7, 2))
WRONG_CROSSINGS = [(value, None) for value in NO_TUPLES] + [((), None), (RIGHT[:1], None), (RIGHT + (None,), None)] + [
    ((wrong, RIGHT[1]), 0) for wrong in NOT_POINT] + [((RIGHT[0], wrong), 1) for wrong in NOT_POINT] + [
    ((wrong, wrong), 0) for wrong in NOT_POINT] + [((RIGHT[1], RIGHT[0]), 0), ((RIGHT[0], RIGHT[0]), 1)]


class WrongArguments(unittest.TestCase):
    def test_kinks(self):
        check_arguments(self, kinks_of, [STARTER_ROW, GATES_ROW])

    def test_goals(self):
        for call in (gate_time, soonest_crossing):
            check_arguments(self, call, [STARTER_ROW, GATES_ROW, GOAL_ROW])

    def test_crossings(self):
        check_arguments(self, crossing_time, [STARTER_ROW, GATES_ROW, (
            "crossing", RIGHT, wrong_index(WRONG_CROSSINGS, InvalidCrossing)), GOAL_ROW])


if __name__ == "__main__":
    unittest.main()
