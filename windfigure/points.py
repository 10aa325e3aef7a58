"""Fractions, points, sides and directions; and the errors for what is none of them."""
from math import gcd

from windfigure.angles import direction_along, stands_before
from windfigure.errors import (InvalidDirection, InvalidFraction, InvalidNormal, InvalidPoint, InvalidSide,
                               InvalidTime, Same)
from windfigure.exact import (NOUGHT, along, are_whole, course_to, overshoot, point_between, point_gap, point_of,
                              point_sum, point_times, ratio, side_of, turn)


def is_fraction(value):
    return are_whole(value, 2) and value[1] > 0 and gcd(value[0], value[1]) == 1


def is_time(value):
    return is_fraction(value) and value[0] >= 0


def is_point(value):
    return are_whole(value, 3) and value[2] > 0 and gcd(value[0], value[1], value[2]) == 1


def is_side(value):
    return are_whole(value, 3) and value[:2] != (0, 0) and gcd(value[0], value[1], value[2]) == 1


def is_normal(value):
    return are_whole(value, 2) and value != (0, 0)


def is_direction(value):
    """Nought has no common divisor of 1, so it needs no test of its own."""
    return are_whole(value, 2) and gcd(value[0], value[1]) == 1


def need_fraction(value):
    if not is_fraction(value):
        raise InvalidFraction(value)


def need_time(value):
    if not is_time(value):
        raise InvalidTime(value)


def need_point(value):
    if not is_point(value):
        raise InvalidPoint(value)


def need_side(value):
    if not is_side(value):
        raise InvalidSide(value)


def need_normal(value):
    if not is_normal(value):
        raise InvalidNormal(value)


def need_direction(value):
    if not is_direction(value):
        raise InvalidDirection(value)


def direction_of(way):
    need_point(way)
    if way == NOUGHT:
        return None
    return direction_along(way[0], way[1])


def is_earlier(direction, other):
    need_direction(direction)
    need_direction(other)
    return stands_before(direction, other)


def point_at(east, north):
    need_fraction(east)
    need_fraction(north)
    return point_of(east[0] * north[1], north[0] * east[1], east[1] * north[1])


def plus(point, other):
    need_point(point)
    need_point(other)
    return point_sum(point, other)


def minus(point, other):
    need_point(point)
    need_point(other)
    return point_gap(point, other)


def times(point, fraction):
    need_point(point)
    need_fraction(fraction)
    return point_times(point, fraction)


def between(point, other, fraction):
    need_point(point)
    need_point(other)
    need_fraction(fraction)
    return point_between(point, other, fraction)


def sense(point, other, third):
    need_point(point)
    need_point(other)
    need_point(third)
    left = turn(point, other, third)
    if left > 0:
        return 1
    if left < 0:
        return -1
    return 0


def side_through(point, other):
    need_point(point)
    need_point(other)
    if point == other:
        raise Same(other)
    u, v = course_to(point, other)
    return side_of(v, -u, along(v, -u, point))


def excess(side, point):
    need_side(side)
    need_point(point)
    return ratio(overshoot(side, point), point[2])
