"""Arcs of winds, and what has one word or one pair round all of them."""
from windfigure.angles import lies_between
from windfigure.points import is_direction

ALL_WINDS = (None, True, None, True)


def is_arc(value):
    if not isinstance(value, tuple) or len(value) != 4:
        return False
    begin, has_begin, end, has_end = value
    if not isinstance(has_begin, bool) or not isinstance(has_end, bool):
        return False
    if begin is None and end is None:
        return has_begin and has_end
    return is_direction(begin) and is_direction(end) and (begin != end or has_begin == has_end)


def wind_alone(wind):
    return (wind, True, wind, True)


def is_in_arc(wind, arc):
    begin, has_begin, end, has_end = arc
    if begin is None:
        return True
    if wind == begin:
        return has_begin
    if wind == end:
        return has_end
    if begin == end:
        return not has_begin
    return lies_between(wind, begin, end)


def rows_round(labels):
    """The pairs of the first and the last index of each row of equal neighbours, as long as it can be.

    After the last label comes the first one; there is no row if all are equal.
    """
    found = []
    for first in range(len(labels)):
        if labels[first - 1] != labels[first]:
            last = first
            while labels[(last + 1) % len(labels)] == labels[first]:
                last = (last + 1) % len(labels)
            found.append((first, last))
    return found
