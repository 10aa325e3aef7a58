"""Whole numbers, fractions and points, for arguments that are known to be right."""
from math import gcd

ZERO = (0, 1)
ONE = (1, 1)
NOUGHT = (0, 0, 1)


def is_whole(value):
    return isinstance(value, int) and not isinstance(value, bool)


def are_whole(value, many):
    """Whether this is a tuple of just so many whole numbers."""
    return isinstance(value, tuple) and len(value) == many and all([is_whole(part) for part in value])


def ratio(top, bottom):
    """The fraction top / bottom; the bottom may be below 0."""
    common = gcd(top, bottom)
    if bottom < 0:
        common = -common
    return (top // common, bottom // common)


def ratio_sum(one, two):
    return ratio(one[0] * two[1] + two[0] * one[1], one[1] * two[1])


def ratio_gap(one, two):
    return ratio(one[0] * two[1] - two[0] * one[1], one[1] * two[1])


def ratio_product(one, two):
    return ratio(one[0] * two[0], one[1] * two[1])


def ratio_part(one, two):
    """The first fraction divided by the other one, which is not 0."""
    return ratio(one[0] * two[1], one[1] * two[0])


def rounded_up(fraction):
    return -(-fraction[0] // fraction[1])


def is_less(one, two):
    return one[0] * two[1] < two[0] * one[1]


def lesser(one, two):
    if is_less(two, one):
        return two
    return one


def is_sooner(one, two):
    """Whether the first time is less than the other one, None being endless."""
    return one is not None and (two is None or is_less(one, two))


def word_for(time, its_time, words):
    """One of four words: the first time is less, both are equal, the other one is less, both are endless."""
    if time is None and its_time is None:
        return words[3]
    if time == its_time:
        return words[1]
    if is_sooner(time, its_time):
        return words[0]
    return words[2]


def time_sum(one, two):
    """The sum of two times, endless if one of them is."""
    if one is None or two is None:
        return None
    return ratio_sum(one, two)


def point_of(x, y, w):
    """The point (x / w, y / w); w may be below 0."""
    common = gcd(x, y, w)
    if w < 0:
        common = -common
    return (x // common, y // common, w // common)


def point_sum(one, two):
    (x, y, w), (u, v, t) = one, two
    return point_of(x * t + u * w, y * t + v * w, w * t)


def point_gap(one, two):
    """The first point less the other one."""
    (x, y, w), (u, v, t) = one, two
    return point_of(x * t - u * w, y * t - v * w, w * t)


def point_times(point, fraction):
    x, y, w = point
    return point_of(x * fraction[0], y * fraction[0], w * fraction[1])


def point_between(one, two, fraction):
    """The first point plus the fraction of the way to the other one."""
    return point_sum(one, point_times(point_gap(two, one), fraction))


def is_before(one, two):
    """Whether the first point is less: by its number x, and by y where these are equal."""
    east = one[0] * two[2] - two[0] * one[2]
    return east < 0 or (east == 0 and one[1] * two[2] < two[1] * one[2])


def course_to(one, two):
    """Whole numbers along the way from the first point to the other one."""
    (x, y, w), (u, v, t) = one, two
    return (u * w - x * t, v * w - y * t)


def side_of(a, b, bound):
    """The side that holds the points with a * x + b * y at most the bound, a fraction."""
    top, bottom = bound
    common = gcd(a * bottom, b * bottom, top)
    return (a * bottom // common, b * bottom // common, top // common)


def along(a, b, point):
    """The fraction a * x + b * y."""
    return ratio(a * point[0] + b * point[1], point[2])


def overshoot(side, point):
    """A whole number above 0 if the point lies outside, 0 if on the line, below 0 inside."""
    return side[0] * point[0] + side[1] * point[1] - side[2] * point[2]


def turn(one, two, three):
    """Above 0 if the third point lies to the left of the way from the first to the second, below 0 to the right."""
    (x, y, w), (u, v) = one, course_to(one, two)
    return u * (three[1] * w - y * three[2]) - v * (three[0] * w - x * three[2])


def parts_along(one, two, way):
    """The fractions s and t with s * one + t * two = way; None if one line through nought has both."""
    (x, y, w), (u, v, t), (p, q, r) = one, two, way
    area = x * v - y * u
    if area == 0:
        return None
    return (ratio((p * v - q * u) * w, area * r), ratio((x * q - y * p) * t, area * r))


def in_order(values, comes_before):
    """The values, each once, ordered by a function that tells whether one of them comes before another one."""
    found = []
    for value in values:
        low, high = 0, len(found)
        while low < high:
            middle = (low + high) // 2
            if comes_before(found[middle], value):
                low = middle + 1
            else:
                high = middle
        if low == len(found) or found[low] != value:
            found.insert(low, value)
    return found


def bounded(rows, low, high):
    """The least and the greatest number, from low to high, that times each pace is at least what is wanted of it.

    The rows are pairs (wanted, pace). None in the place of low or high stands for no bound; None alone is told if there
    is no such number.
    """
    for wanted, pace in rows:
        if pace == ZERO:
            if is_less(ZERO, wanted):
                return None
            continue
        bound = ratio_part(wanted, pace)
        if is_less(ZERO, pace):
            if low is None or is_less(low, bound):
                low = bound
        elif high is None or is_less(bound, high):
            high = bound
    if low is not None and high is not None and is_less(high, low):
        return None
    return (low, high)
