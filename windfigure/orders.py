"""Orders of marks: the soonest way to come to all of them."""
from itertools import permutations

from windfigure.errors import InvalidMarks, InvalidOrder
from windfigure.exact import ZERO, is_sooner, is_whole, time_sum
from windfigure.figures import need_figure
from windfigure.isles import all_corners, is_outside, need_isles, need_outside
from windfigure.network import leg_times, soonest_from
from windfigure.points import is_point

MOST_MARKS = 5


def need_marks(value, isles):
    if not isinstance(value, tuple) or value == ():
        raise InvalidMarks(None)
    for index, mark in enumerate(value):
        if index == MOST_MARKS or not is_mark(mark, isles) or mark in value[:index]:
            raise InvalidMarks(index)


def is_mark(value, isles):
    return is_point(value) and is_outside(value, isles)


def need_order(value, marks):
    if not is_order(value, len(marks)):
        raise InvalidOrder(value)


def is_order(value, many):
    """Whether this is a tuple of all whole numbers from 0 to below so many, each once."""
    if not isinstance(value, tuple) or not all([is_whole(index) for index in value]):
        return False
    return sorted(value) == list(range(many))


def need_trip(figure, isles, start, marks):
    need_figure(figure)
    need_isles(isles)
    need_outside(start, isles)
    need_marks(marks, isles)


def best_order(figure, isles, start, marks):
    need_trip(figure, isles, start, marks)
    return least_order(times_between(figure, isles, start, marks), ())


def best_round(figure, isles, start, marks):
    need_trip(figure, isles, start, marks)
    return least_order(times_between(figure, isles, start, marks), (0,))


def order_time(figure, isles, start, marks, order):
    need_trip(figure, isles, start, marks)
    need_order(order, marks)
    return time_along(times_between(figure, isles, start, marks), order, ())


def times_between(figure, isles, start, marks):
    """The soonest times between each two of the start, at the index 0, and the marks, from the index 1 on."""
    stops = (start,) + marks
    table = leg_times(figure, isles, stops + all_corners(isles))
    rows = []
    for index in range(len(stops)):
        found, _ = soonest_from(table, index)
        rows.append(found[:len(stops)])
    return rows


def least_order(rows, ending):
    """The least time and the first order that takes it, None if all are endless; the ending is what comes after."""
    best, chosen = None, None
    for order in permutations(range(len(rows) - 1)):
        total = time_along(rows, order, ending)
        if is_sooner(total, best):
            best, chosen = total, order
    if best is None:
        return None
    return (best, chosen)


def time_along(rows, order, ending):
    total, here = ZERO, 0
    for there in tuple([index + 1 for index in order]) + ending:
        total, here = time_sum(total, rows[here][there]), there
    return total
