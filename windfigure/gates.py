"""Gates: the soonest crossings of gates that are passed one after another in open water."""
from windfigure.errors import InvalidCrossing, InvalidGates, InvalidStarter
from windfigure.exact import (NOUGHT, ONE, ZERO, in_order, is_less, parts_along, point_between, point_gap, ratio_gap,
                              ratio_part, ratio_product, ratio_sum)
from windfigure.figures import is_figure, time_by_sides
from windfigure.points import is_point, need_point
from windfigure.shapes import shape_has_within, shape_holds, shape_hull, shape_opposite, shape_sides

MOST_GATES = 4


def is_starter(value):
    if not isinstance(value, tuple) or len(value) != 2:
        return False
    return is_figure(value[0]) and shape_has_within(value[0], NOUGHT) and is_point(value[1])


def need_starter(value):
    if not is_starter(value):
        raise InvalidStarter(value)


def is_gate(value):
    if not isinstance(value, tuple) or len(value) != 2:
        return False
    return is_point(value[0]) and is_point(value[1]) and value[0] != value[1]


def need_gates(value):
    if not isinstance(value, tuple) or value == ():
        raise InvalidGates(None)
    for index, gate in enumerate(value):
        if index == MOST_GATES or not is_gate(gate):
            raise InvalidGates(index)


def need_crossing(value, gates):
    if not isinstance(value, tuple) or len(value) != len(gates):
        raise InvalidCrossing(None)
    for index, point in enumerate(value):
        if not is_point(point) or not shape_holds(shape_hull(gates[index]), point):
            raise InvalidCrossing(index)


def kinks_of(starter, gates):
    need_starter(starter)
    need_gates(gates)
    return tuple(all_kinks(starter, gates)[-1])


def all_kinks(starter, gates):
    """For each gate the shares of its ends and of its kinks, ascending, each with the least time to its point."""
    figure, start = starter
    sides, against = shape_sides(figure), shape_opposite(figure)
    shares = in_order(shares_seen(gates[0], start, against) + [ZERO, ONE], is_less)
    rows = [bends([(share, time_between(sides, start, point_on(gates[0], share))) for share in shares])]
    for before, gate in zip(gates, gates[1:]):
        kinks, shares = rows[-1], share_where_met(before, gate) + [ZERO, ONE]
        for share, _ in kinks:
            shares = shares + shares_seen(gate, point_on(before, share), against)
        found = [(share, best_by_way_of(figure, sides, before, kinks, point_on(gate, share)))
                 for share in in_order(shares, is_less)]
        rows.append(bends([(share, best[0]) for share, best in found]))
    return rows


def point_on(gate, share):
    return point_between(gate[0], gate[1], share)


def time_between(sides, start, goal):
    return time_by_sides(sides, point_gap(goal, start))


def shares_seen(gate, place, velocities):
    """The shares of the gate from which the way to the place is nought or along one of the velocities.

    Where the gate itself is along a velocity, only its end or kink there bends, and is seen by another velocity.
    """
    stretch, gap = point_gap(gate[1], gate[0]), point_gap(place, gate[0])
    found = []
    for velocity in velocities:
        parts = parts_along(velocity, stretch, gap)
        if parts is not None and not is_less(parts[0], ZERO) and is_share(parts[1]):
            found.append(parts[1])
    return found


def share_where_met(before, gate):
    """In a list the share of the gate at which the line of the gate before meets it; none if they are parallel."""
    parts = parts_along(point_gap(before[1], before[0]), point_gap(gate[1], gate[0]), point_gap(before[0], gate[0]))
    if parts is None or not is_share(parts[1]):
        return []
    return [parts[1]]


def is_share(fraction):
    return 0 <= fraction[0] <= fraction[1]


def bends(rows):
    """Of pairs of a share and a time, straight between neighbours, the first and the last one and all that bend."""
    kept = [rows[0]]
    for index in range(1, len(rows) - 1):
        if slope(rows[index - 1], rows[index]) != slope(rows[index], rows[index + 1]):
            kept.append(rows[index])
    return kept + [rows[-1]]


def slope(one, two):
    return ratio_part(ratio_gap(two[1], one[1]), ratio_gap(two[0], one[0]))


def time_at(kinks, share):
    """The time for a share, straight between neighbouring kinks."""
    later = 1
    while is_less(kinks[later][0], share):
        later += 1
    one, two = kinks[later - 1], kinks[later]
    return ratio_sum(one[1], ratio_product(slope(one, two), ratio_gap(share, one[0])))


def best_by_way_of(figure, sides, gate, kinks, place):
    """The least time to the place over the points of the gate, and the share of such a point."""
    tried = kinks + [(share, time_at(kinks, share)) for share in shares_seen(gate, place, figure)]
    best = None
    for share, time in tried:
        total = ratio_sum(time, time_between(sides, point_on(gate, share), place))
        if best is None or is_less(total, best[0]):
            best = (total, share)
    return best


def gate_time(starter, gates, goal):
    need_starter(starter)
    need_gates(gates)
    need_point(goal)
    figure = starter[0]
    time, _ = best_by_way_of(figure, shape_sides(figure), gates[-1], all_kinks(starter, gates)[-1], goal)
    return time


def soonest_crossing(starter, gates, goal):
    need_starter(starter)
    need_gates(gates)
    need_point(goal)
    figure = starter[0]
    sides, place, crossing = shape_sides(figure), goal, []
    for gate, kinks in reversed(list(zip(gates, all_kinks(starter, gates)))):
        _, share = best_by_way_of(figure, sides, gate, kinks, place)
        place = point_on(gate, share)
        crossing.append(place)
    return tuple(reversed(crossing))


def crossing_time(starter, gates, crossing, goal):
    need_starter(starter)
    need_gates(gates)
    need_crossing(crossing, gates)
    need_point(goal)
    sides = shape_sides(starter[0])
    total, place = ZERO, starter[1]
    for point in crossing + (goal,):
        total, place = ratio_sum(total, time_between(sides, place, point)), point
    return total
