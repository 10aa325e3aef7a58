"""Firsts: which of several boats, each from a start of its own, is first at a place, in a polygon, along a stretch."""
from windfigure.errors import InvalidStarters, Same
from windfigure.exact import (ONE, ZERO, in_order, is_less, point_between, point_gap, ratio, ratio_gap, ratio_part,
                              ratio_product, ratio_sum)
from windfigure.figures import time_by_sides
from windfigure.forms import part_below
from windfigure.gates import is_starter, need_starter, shares_seen, time_between
from windfigure.points import need_point
from windfigure.polygons import need_polygon
from windfigure.shapes import shape_holds, shape_opposite, shape_sides

MOST_STARTERS = 4


def need_starters(value):
    if not isinstance(value, tuple) or value == ():
        raise InvalidStarters(None)
    for index, starter in enumerate(value):
        if index == MOST_STARTERS or not is_starter(starter):
            raise InvalidStarters(index)


def need_two(starter, other):
    need_starter(starter)
    need_starter(other)


def time_at(starter, place):
    need_starter(starter)
    need_point(place)
    return time_to(starter, place)


def time_to(starter, place):
    figure, start = starter
    return time_between(shape_sides(figure), start, place)


def lead(starter, other, place):
    need_two(starter, other)
    need_point(place)
    return lead_at(starter, other, place)


def lead_at(starter, other, place):
    return ratio_gap(time_to(other, place), time_to(starter, place))


def least_lead(starter, other, polygon):
    need_two(starter, other)
    need_polygon(polygon)
    return lowest_lead(starter, other, polygon)


def lowest_lead(starter, other, polygon):
    """The least lead over all places of the polygon, and a place with this lead."""
    best = None
    for part in parts_of(other, polygon):
        for place in part or ():
            found = lead_at(starter, other, place)
            if best is None or is_less(found, best[0]):
                best = (found, place)
    return best


def parts_of(starter, polygon):
    """For each side of the starter's figure the places for which it tells the starter's time, None for none."""
    forms = time_forms(starter)
    return [part_below(polygon, forms, [form]) for form in forms]


def time_forms(starter):
    """For each side of the starter's figure the linear form of a place that tells the time on this side."""
    figure, (x, y, w) = starter
    return [(a * w, b * w, -a * x - b * y, h * w) for a, b, h in shape_sides(figure)]


def greatest_lead(starter, other, polygon):
    need_two(starter, other)
    need_polygon(polygon)
    # The other one's lead over the starter is the opposite number.
    (top, bottom), place = lowest_lead(other, starter, polygon)
    return ((-top, bottom), place)


def is_first_in(starter, other, polygon):
    need_two(starter, other)
    need_polygon(polygon)
    found, _ = lowest_lead(starter, other, polygon)
    return not is_less(found, ZERO)


def first_parts(starter, other, polygon):
    need_two(starter, other)
    need_polygon(polygon)
    own, forms = time_forms(starter), time_forms(other)
    return tuple([part_below(polygon, forms + own, [form]) for form in forms])


def head_start(starter, other):
    need_two(starter, other)
    figure, start = starter
    its_figure, its_start = other
    if not all([shape_holds(figure, corner) for corner in its_figure]):
        return None
    return time_by_sides(shape_sides(figure), point_gap(its_start, start))


def firsts_at(starters, place):
    need_starters(starters)
    need_point(place)
    return tuple(firsts_of([time_to(starter, place) for starter in starters]))


def firsts_of(row):
    """The indexes of the least ones of some times."""
    least = row[0]
    for time in row:
        if is_less(time, least):
            least = time
    return [index for index in range(len(row)) if row[index] == least]


def shares_of(starters, begin, end):
    need_starters(starters)
    need_point(begin)
    need_point(end)
    if begin == end:
        raise Same(end)
    shares = parting_shares(starters, begin, end)
    at = [firsts_of(times_on(starters, begin, end, share)) for share in shares]
    # Where the order of the times does not change, any share tells it.
    beyond = [firsts_of(times_on(starters, begin, end, amid_shares(shares[index - 1], shares[index])))
              for index in range(1, len(shares))]
    return tuple([tuple(stretches_of(index, shares, at, beyond)) for index in range(len(starters))])


def amid_shares(low, high):
    top, bottom = ratio_sum(low, high)
    return ratio(top, 2 * bottom)


def times_on(starters, begin, end, share):
    """The times of all starters to the point with this share."""
    return [time_to(starter, point_between(begin, end, share)) for starter in starters]


def parting_shares(starters, begin, end):
    """Shares, in their order, between which the order of the starters' times does not change."""
    turning = [ZERO, ONE]
    for figure, start in starters:
        turning = turning + shares_seen((begin, end), start, shape_opposite(figure))
    turning = in_order(turning, is_less)
    rows = [(share, times_on(starters, begin, end, share)) for share in turning]
    for low, high in zip(rows, rows[1:]):
        turning = turning + ties_between(low, high)
    return in_order(turning, is_less)


def ties_between(low, high):
    """The shares strictly between two at which two starters' times, which are linear there, become equal."""
    (share, times), (its_share, its_times) = low, high
    found = []
    for j in range(len(times)):
        for i in range(j):
            gap, its_gap = ratio_gap(times[i], times[j]), ratio_gap(its_times[i], its_times[j])
            if gap[0] * its_gap[0] < 0:
                part = ratio_part(gap, ratio_gap(gap, its_gap))
                found.append(ratio_sum(share, ratio_product(part, ratio_gap(its_share, share))))
    return found


def stretches_of(index, shares, at, beyond):
    """The pairs of shares between which one starter is among the firsts, as long as they can be.

    The firsts are told for each share and for what lies between it and the next one.
    """
    found, low = [], None
    for k in range(len(shares)):
        if index not in at[k]:
            continue
        if low is None:
            low = shares[k]
        # Whoever is first between two shares is first at both, as times do not leap.
        if k == len(beyond) or index not in beyond[k]:
            found.append((low, shares[k]))
            low = None
    return found
