"""Figures: the velocities that a boat can make in one wind, the times of ways, and the tacks that make them."""
from windfigure.errors import InvalidFigure, InvalidPaces, InvalidTacks, NoArea
from windfigure.exact import (NOUGHT, ZERO, along, bounded, is_less, parts_along, point_gap, point_sum, point_times,
                              ratio, ratio_gap, ratio_sum)
from windfigure.points import is_point, is_time, need_point
from windfigure.polygons import first_no_point, is_polygon, need_polygon
from windfigure.shapes import shape_holds, shape_hull, shape_opposite, shape_sides, shape_support


def is_figure(value):
    return is_polygon(value) and len(value) > 2 and shape_holds(value, NOUGHT)


def need_figure(value):
    if not is_figure(value):
        raise InvalidFigure(value)


def is_tack(value):
    if not isinstance(value, tuple) or len(value) != 2:
        return False
    return is_point(value[0]) and is_time(value[1]) and value[1] != ZERO


def need_tacks(value):
    if not isinstance(value, tuple):
        raise InvalidTacks(None)
    for index, tack in enumerate(value):
        if not is_tack(tack):
            raise InvalidTacks(index)


def figure_of(paces):
    if not isinstance(paces, tuple):
        raise InvalidPaces(None)
    wrong = first_no_point(paces)
    if wrong is not None:
        raise InvalidPaces(wrong)
    figure = shape_hull(paces + (NOUGHT,))
    if len(figure) < 3:
        raise NoArea()
    return figure


def time_of(figure, way):
    need_figure(figure)
    need_point(way)
    return time_by_sides(shape_sides(figure), way)


def time_by_sides(sides, way):
    """The least time for a way in the figure with these sides, None if it is endless."""
    time, _ = time_and_side(sides, way)
    return time


def time_and_side(sides, way):
    """The least time for a way, and the index of the first side that tells it.

    None for both if the time is endless, and for the side alone if the way is nought.
    """
    x, y, w = way
    most, met = ZERO, None
    for index, (a, b, h) in enumerate(sides):
        gain = a * x + b * y
        if h > 0:
            wanted = ratio(gain, h * w)
            if is_less(most, wanted):
                most, met = wanted, index
        elif gain > 0:
            return (None, None)
    return (most, met)


def side_met(figure, way):
    need_figure(figure)
    need_point(way)
    return side_by_sides(shape_sides(figure), way)


def side_by_sides(sides, way):
    """The first of the sides that tells the time of a way; None for nought and for an endless time."""
    _, met = time_and_side(sides, way)
    if met is None:
        return None
    return sides[met]


def tacks_of(figure, way):
    need_figure(figure)
    need_point(way)
    return soonest_tacks(figure, way)


def soonest_tacks(figure, way):
    time, met = time_and_side(shape_sides(figure), way)
    if time is None:
        return None
    if met is None:
        return ()
    # The line of the side does not go through nought, so both corners make each way between them.
    corners = (figure[met], figure[(met + 1) % len(figure)])
    shares = parts_along(corners[0], corners[1], way)
    return tuple([(corner, share) for corner, share in zip(corners, shares) if share != ZERO])


def made_by(tacks):
    need_tacks(tacks)
    way, time = NOUGHT, ZERO
    for velocity, length in tacks:
        way, time = point_sum(way, point_times(velocity, length)), ratio_sum(time, length)
    return (way, time)


def may_sail(figure, tacks):
    need_figure(figure)
    need_tacks(tacks)
    return all([shape_holds(figure, velocity) for velocity, length in tacks])


def times_in_streams(figure, streams, way):
    need_figure(figure)
    need_polygon(streams)
    need_point(way)
    against = shape_opposite(streams)
    # In an hour the boat gains at least so much on a side in each of the streams, and so much is wanted of it.
    rows = [(along(a, b, way), ratio_gap((h, 1), shape_support(against, a, b))) for a, b, h in shape_sides(figure)]
    return bounded(rows, ZERO, None)


def steered(figure, stream, velocity):
    need_figure(figure)
    need_point(stream)
    need_point(velocity)
    own = point_gap(velocity, stream)
    if not shape_holds(figure, own):
        return None
    return own


def can_stay(figure, streams):
    need_figure(figure)
    need_polygon(streams)
    return all([shape_holds(figure, velocity) for velocity in shape_opposite(streams)])
