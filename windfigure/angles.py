"""Directions in the order of their angles, for arguments that are known to be right."""
from math import gcd

from windfigure.exact import course_to, in_order


def direction_along(x, y):
    """The direction along whole numbers, not both 0."""
    common = gcd(x, y)
    return (x // common, y // common)


def half_turn(direction):
    """0 for the angles from 0 up to below half a turn, 1 for the others."""
    if direction[1] > 0 or (direction[1] == 0 and direction[0] > 0):
        return 0
    return 1


def stands_before(one, two):
    half, its_half = half_turn(one), half_turn(two)
    if half != its_half:
        return half < its_half
    return one[0] * two[1] - one[1] * two[0] > 0


def by_angle(directions):
    """The directions in their order, each once."""
    return in_order(directions, stands_before)


def neighbours(directions):
    """The pairs of each of the directions and the next one, after the last one the first."""
    return [(directions[index - 1], directions[index]) for index in range(1, len(directions))] + [
        (directions[-1], directions[0])]


def lies_between(direction, begin, end):
    """Whether it lies strictly between, on the way from the begin counterclockwise to the end."""
    if stands_before(begin, end):
        return stands_before(begin, direction) and stands_before(direction, end)
    return stands_before(begin, direction) or stands_before(direction, end)


def amid(begin, end):
    """Any direction strictly between, on the way from the begin counterclockwise to the end."""
    (x, y), (u, v) = begin, end
    if x * v - y * u > 0:
        return direction_along(x + u, y + v)
    # Half a turn or more lies between, and a quarter of a turn on from the begin.
    return (-y, x)


def tie_between(one, two, begin, end):
    """The direction strictly between in which two linear forms tell the same, if they do not do so everywhere.

    A form is told by the point of its two numbers. None if there is no such direction, or if one form is None.
    """
    if one is None or two is None or one == two:
        return None
    p, q = course_to(one, two)
    for x, y in ((-q, p), (q, -p)):
        direction = direction_along(x, y)
        if lies_between(direction, begin, end):
            return direction
    return None
