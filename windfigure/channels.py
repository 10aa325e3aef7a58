"""Channels: the fewest runs between two walls, and how they grow with the length of the way."""
from math import gcd

from windfigure.errors import InvalidChannel, InvalidForm, InvalidNumber, NotAlong, OutOfChannel, TooMany
from windfigure.exact import (ONE, ZERO, along, are_whole, is_less, is_whole, lesser, point_gap, point_sum,
                              point_times, ratio, ratio_gap, ratio_part, ratio_product, ratio_sum, rounded_up)
from windfigure.figures import need_figure, soonest_tacks, time_by_sides
from windfigure.points import is_fraction, need_point
from windfigure.routes import need_route
from windfigure.shapes import shape_sides

MOST_RUNS = 39


def is_channel(value):
    if not are_whole(value, 4) or value[:2] == (0, 0) or value[2] >= value[3]:
        return False
    return gcd(value[0], value[1], value[2], value[3]) == 1


def need_channel(value):
    if not is_channel(value):
        raise InvalidChannel(value)


def need_in_channel(value, channel):
    need_point(value)
    if not is_in_channel(channel, value):
        raise OutOfChannel(value)


def is_in_channel(channel, point):
    return not is_less(room_below(channel, point), ZERO) and not is_less(room_above(channel, point), ZERO)


def room_below(channel, point):
    """How far the cross of the point is above the low wall."""
    return ratio_gap(cross_by(channel, point), (channel[2], 1))


def room_above(channel, point):
    return ratio_gap((channel[3], 1), cross_by(channel, point))


def cross_of(channel, point):
    need_channel(channel)
    need_point(point)
    return cross_by(channel, point)


def cross_by(channel, point):
    return along(channel[0], channel[1], point)


def rise_and_fall(figure, channel, way):
    need_figure(figure)
    need_channel(channel)
    need_point(way)
    tacks = soonest_tacks(figure, way)
    if tacks is None:
        return None
    return rise_and_fall_by(channel, tacks)


def rise_and_fall_by(channel, tacks):
    rise, fall = ZERO, ZERO
    for velocity, time in tacks:
        gain = ratio_product(cross_by(channel, velocity), time)
        if is_less(gain, ZERO):
            fall = ratio_gap(fall, gain)
        else:
            rise = ratio_sum(rise, gain)
    return (rise, fall)


def need_ends(figure, channel, start, goal):
    need_figure(figure)
    need_channel(channel)
    need_in_channel(start, channel)
    need_in_channel(goal, channel)


def fewest_runs(figure, channel, start, goal):
    need_ends(figure, channel, start, goal)
    tacks = soonest_tacks(figure, point_gap(goal, start))
    if tacks is None:
        return None
    return count_runs(channel, start, tacks)


def count_runs(channel, start, tacks):
    """The fewest soonest runs from the start in the channel that together are these tacks."""
    rise, fall = rise_and_fall_by(channel, tacks)
    if ZERO in (rise, fall):
        return len(tacks)
    width, low = (channel[3] - channel[2], 1), room_below(channel, start)
    return min(2 * rounded_up(ratio_part(fall, width)) + 1,
               2 * rounded_up(ratio_part(rise, width)) + 1,
               2 * rounded_up(ratio_part(ratio_sum(rise, low), width)),
               2 * rounded_up(ratio_part(ratio_gap(fall, low), width)) + 2)


def runs_between(figure, channel, start, goal):
    need_ends(figure, channel, start, goal)
    tacks = soonest_tacks(figure, point_gap(goal, start))
    if tacks is None:
        return None
    many = count_runs(channel, start, tacks)
    if many > MOST_RUNS:
        raise TooMany(many)
    route = runs_by_turns(channel, start, tacks, many)
    if route[-1] != goal:
        route = runs_by_turns(channel, start, tuple(reversed(tacks)), many)
    return route


def runs_by_turns(channel, start, tacks, many):
    """The places along so many runs by turns, each as long as its tack and the channel let it be.

    No runs with the same first corner use up the tacks by fewer. If even these do not, the other corner comes first.
    """
    route, left = [start], [time for velocity, time in tacks]
    for index in range(many):
        velocity = tacks[index % len(tacks)][0]
        time = time_in_channel(channel, route[-1], velocity, left[index % len(tacks)])
        left[index % len(tacks)] = ratio_gap(left[index % len(tacks)], time)
        route.append(point_sum(route[-1], point_times(velocity, time)))
    return tuple(route)


def time_in_channel(channel, place, velocity, most):
    """How long a run along the velocity stays in the channel, at most the time told."""
    pace = cross_by(channel, velocity)
    if is_less(ZERO, pace):
        return lesser(most, ratio_part(room_above(channel, place), pace))
    if is_less(pace, ZERO):
        return lesser(most, ratio_part(room_below(channel, place), (-pace[0], pace[1])))
    return most


def are_runs(figure, channel, route):
    need_figure(figure)
    need_channel(channel)
    need_route(route)
    if not all([is_in_channel(channel, point) for point in route]):
        return False
    total = ZERO
    for index in range(1, len(route)):
        tacks = soonest_tacks(figure, point_gap(route[index], route[index - 1]))
        if tacks is None or len(tacks) != 1:
            return False
        total = ratio_sum(total, tacks[0][1])
    return total == time_by_sides(shape_sides(figure), point_gap(route[-1], route[0]))


def runs_form(figure, channel, start, way):
    need_figure(figure)
    need_channel(channel)
    need_in_channel(start, channel)
    need_point(way)
    if cross_by(channel, way) != ZERO:
        raise NotAlong(way)
    tacks = soonest_tacks(figure, way)
    if tacks is None or len(tacks) < 2:
        return None
    rise, _ = rise_and_fall_by(channel, tacks)
    width = (channel[3] - channel[2], 1)
    return (ratio_part(rise, width), ratio_part(room_below(channel, start), width))


def need_form(value):
    if not is_form(value):
        raise InvalidForm(value)


def is_form(value):
    if not isinstance(value, tuple) or len(value) != 2 or not is_fraction(value[0]) or not is_fraction(value[1]):
        return False
    return is_less(ZERO, value[0]) and not is_less(value[1], ZERO) and not is_less(ONE, value[1])


def runs_by_form(form, many):
    need_form(form)
    if not is_whole(many) or many < 1:
        raise InvalidNumber(many)
    share, start = form
    rise = ratio(many * share[0], share[1])
    return min(2 * rounded_up(rise) + 1,
               2 * rounded_up(ratio_sum(rise, start)),
               2 * rounded_up(ratio_gap(rise, start)) + 2)


def dear_share(form):
    need_form(form)
    share, start = form
    nearer = lesser(start, ratio_gap(ONE, start))
    turns = share[1]
    return ratio(rounded_up(ratio(turns * nearer[0], nearer[1])), turns)
