"""[30]: the soonest orders of marks."""
import random
import unittest
from itertools import permutations

from tests.helpers import (ANY, ISLE, NO_TUPLES, NOT_FIGURE, NOT_POINT, ROW, check_arguments, check_raised, not_isles,
                           num, random_figure, random_isles, random_outside, slow_table, told_time, wrong_given,
                           wrong_index)
from windfigure.errors import InIsle, InvalidFigure, InvalidIsles, InvalidMarks, InvalidOrder, InvalidPoint
from windfigure.orders import best_order, best_round, order_time
from windfigure.routes import soonest_time

DIAMOND = ((-1, 0, 1), (0, -1, 1), (1, 0, 1), (0, 1, 1))
BOX = ((-1, -1, 1), (1, -1, 1), (1, 1, 1), (-1, 1, 1))
WEDGE = ((0, 0, 1), (1, 0, 1), (0, 1, 1))
HOME, AWAY = (0, 0, 1), (4, 0, 1)
ISLES = (ISLE,)


def slow_times(table, back):
    """The time of each order of the marks; None for endless."""
    found = {}
    for order in permutations(range(len(table) - 1)):
        total, here = 0, 0
        for there in [k + 1 for k in order] + [0] * back:
            step = table[here][there]
            total = None if total is None or step is None else total + step
            here = there
        found[order] = total
    return found


def slow_best(found):
    times = [time for time in found.values() if time is not None]
    if not times:
        return None
    return told_time(min(times)), min(order for order in found if found[order] == min(times))


def random_case(rng, most=5):
    isles = random_isles(rng, 2, 3)
    figure = rng.choice([DIAMOND, BOX, WEDGE]) if rng.random() < 0.6 else random_figure(rng)
    marks = []
    for _ in range(rng.randint(1, most)):
        mark = random_outside(rng, isles, 3)
        if mark not in marks:
            marks.append(mark)
    return figure, isles, random_outside(rng, isles, 3), tuple(marks)


class Orders(unittest.TestCase):
    def test_examples(self):
        marks = (AWAY, (1, -1, 1))
        self.assertEqual(best_order(DIAMOND, ISLES, HOME, marks), ((6, 1), (1, 0)))
        self.assertEqual(best_round(DIAMOND, ISLES, HOME, marks), ((12, 1), (0, 1)))
        self.assertEqual(order_time(DIAMOND, ISLES, HOME, marks, (1, 0)), (6, 1))
        self.assertEqual(order_time(DIAMOND, ISLES, HOME, marks, (0, 1)), (10, 1))

    def test_one_mark(self):
        self.assertEqual(best_order(DIAMOND, ISLES, HOME, (AWAY,)), ((6, 1), (0,)))
        self.assertEqual(best_round(DIAMOND, ISLES, HOME, (AWAY,)), ((12, 1), (0,)))
        self.assertEqual(order_time(DIAMOND, ISLES, HOME, (AWAY,), (0,)), (6, 1))
        self.assertEqual(best_order(DIAMOND, ISLES, HOME, (HOME,)), ((0, 1), (0,)))
        self.assertEqual(best_round(WEDGE, (), HOME, (HOME,)), ((0, 1), (0,)))

    def test_of_several_orders_the_least_one(self):
        marks = ((1, 0, 1), (-1, 0, 1), (0, 1, 1), (0, -1, 1))
        self.assertEqual(best_order(DIAMOND, (), HOME, marks), ((7, 1), (0, 1, 2, 3)))
        self.assertEqual(best_round(DIAMOND, (), HOME, marks), ((8, 1), (0, 1, 2, 3)))
        line = ((3, 0, 1), (1, 0, 1), (4, 0, 1), (2, 0, 1), (5, 0, 1))
        self.assertEqual(best_order(DIAMOND, (), HOME, line), ((5, 1), (1, 3, 0, 2, 4)))
        self.assertEqual(best_round(DIAMOND, (), HOME, line), ((10, 1), (0, 2, 4, 3, 1)))

    def test_endless_ones(self):
        marks = ((2, 0, 1), (0, 2, 1))
        self.assertIsNone(best_order(WEDGE, (), HOME, marks))
        self.assertIsNone(best_round(WEDGE, (), HOME, marks))
        self.assertIsNone(order_time(WEDGE, (), HOME, marks, (0, 1)))
        self.assertIsNone(order_time(WEDGE, (), HOME, marks, (1, 0)))
        marks = ((2, 2, 1), (1, 1, 1))
        self.assertEqual(best_order(WEDGE, (), HOME, marks), ((4, 1), (1, 0)))
        self.assertIsNone(best_round(WEDGE, (), HOME, marks))
        self.assertIsNone(order_time(WEDGE, (), HOME, marks, (0, 1)))
        self.assertEqual(order_time(WEDGE, (), HOME, marks, (1, 0)), (4, 1))

    def test_the_start_may_be_a_mark_and_a_corner(self):
        self.assertEqual(best_order(DIAMOND, ISLES, (1, -1, 1), ((3, -1, 1), (1, -1, 1), (2, 2, 1))),
                         ((6, 1), (1, 0, 2)))
        self.assertEqual(best_round(DIAMOND, ISLES, (1, -1, 1), ((3, -1, 1), (1, -1, 1), (2, 2, 1))),
                         ((10, 1), (0, 2, 1)))

    def test_random_ones(self):
        rng = random.Random(1)
        ties, none, some = 0, 0, 0
        for _ in range(120):
            figure, isles, start, marks = random_case(rng)
            corners = tuple(corner for isle in isles for corner in isle)
            table = slow_table(figure, isles, (start,) + marks + corners)
            table = [row[:len(marks) + 1] for row in table[:len(marks) + 1]]
            once, back = slow_times(table, 0), slow_times(table, 1)
            told = best_order(figure, isles, start, marks)
            self.assertEqual(told, slow_best(once))
            self.assertEqual(best_round(figure, isles, start, marks), slow_best(back))
            for order in rng.sample(sorted(once), min(len(once), 4)):
                self.assertEqual(order_time(figure, isles, start, marks, order), told_time(once[order]))
            none, some = none + (told is None), some + (told is not None)
            ties += told is not None and list(once.values()).count(num(told[0])) > 1
        self.assertGreater(min(ties, none, some), 5, (ties, none, some))

    def test_five_marks_among_six_isles(self):
        marks = ((41, 0, 4), (9, 1, 1), (16, 1, 1), (12, 1, 1), (31, 0, 2))
        time, order = best_order(DIAMOND, ROW, HOME, marks)
        self.assertEqual(order_time(DIAMOND, ROW, HOME, marks, order), time)
        total, here = 0, HOME
        for index in order:
            total, here = total + num(soonest_time(DIAMOND, ROW, here, marks[index])), marks[index]
        self.assertEqual(num(time), total)
        for other in permutations(range(5)):
            told = order_time(DIAMOND, ROW, HOME, marks, other)
            self.assertGreaterEqual((num(told), other), (num(time), order))


ALL_ISLES = (ISLE,) + ROW[:1]
MARKS = ((9, 9, 1), AWAY, (1, -1, 1), (-1, 5, 3))
NOT_MARKS = [(value, None) for value in NO_TUPLES + [(), list(MARKS)]]
NOT_MARKS += [(MARKS[:at] + (wrong,) + MARKS[at:], at) for at in range(5)
              for wrong in NOT_POINT + [(2, 0, 1), (41, 1, 4)]]
NOT_MARKS += [(MARKS[:at] + (MARKS[0],) + MARKS[at:], at) for at in range(1, 5)]
NOT_MARKS += [(MARKS + ((7, 7, 1), wrong), 5) for wrong in ((8, 8, 1), None, AWAY, (2, 0, 1))]
NOT_MARKS += [((AWAY, AWAY, None), 1), ((AWAY, (2, 0, 1), AWAY), 1), ((AWAY, (2, 0, 1), None), 1),
              (MARKS + ((7, 7, 1), (8, 8, 1), (9, 8, 1)), 5)]
NOT_ORDERS = ANY + [(0, 1, 2), (0, 1, 2, 3, 4), (0, 1, 2, 4), (0, 1, 2, 2), (0, 1, 2, -1), (1, 2, 3, 4), [0, 1, 2, 3],
                    (False, True, 2, 3), (0, True, 2, 3), ((0,), 1, 2, 3), (0, 1, 2, None), (0, 1, 2, "3"),
                    (0, 1, 2, 3, 3), (-4, -3, -2, -1)]
NOT_OUTSIDE = wrong_given(NOT_POINT, InvalidPoint) + wrong_given([(2, 0, 1), (4, 1, 2), (41, 1, 4)], InIsle)
FIGURE = ("figure", DIAMOND, wrong_given(NOT_FIGURE, InvalidFigure))
THE_ISLES = ("isles", ALL_ISLES, wrong_index(not_isles(), InvalidIsles))
START = ("start", HOME, NOT_OUTSIDE)
THE_MARKS = ("marks", MARKS, wrong_index(NOT_MARKS, InvalidMarks))


class WrongArguments(unittest.TestCase):
    def test_best_orders(self):
        for call in (best_order, best_round):
            check_arguments(self, call, [FIGURE, THE_ISLES, START, THE_MARKS])

    def test_order_time(self):
        check_arguments(self, order_time, [FIGURE, THE_ISLES, START, THE_MARKS,
                                           ("order", (2, 0, 3, 1), wrong_given(NOT_ORDERS, InvalidOrder))])

    def test_orders_of_one_mark(self):
        for order in [(), (1,), (True,), (False,), (0, 0), (-1,)]:
            check_raised(self, InvalidOrder, "given", order, order_time, DIAMOND, (), HOME, (AWAY,), order)

    def test_six_marks(self):
        marks = tuple((k, k + 1, 1) for k in range(6))
        self.assertIsNotNone(best_order(DIAMOND, (), HOME, marks[:5]))
        check_raised(self, InvalidMarks, "index", 5, best_order, DIAMOND, (), HOME, marks)
        check_raised(self, InvalidMarks, "index", 5, best_round, DIAMOND, (), HOME, marks)


if __name__ == "__main__":
    unittest.main()
