"""Figures: the velocities that a boat can make in one wind, and the times of ways."""
from windfigure.errors import InvalidFigure
from windfigure.exact import NOUGHT, ZERO, is_less, ratio
from windfigure.points import need_point
from windfigure.polygons import is_polygon
from windfigure.shapes import shape_holds, shape_sides


def is_figure(value):
    return is_polygon(value) and len(value) > 2 and shape_holds(value, NOUGHT)


def need_figure(value):
    if not is_figure(value):
        raise InvalidFigure(value)


def time_of(figure, way):
    need_figure(figure)
    need_point(way)
    return time_by_sides(shape_sides(figure), way)


def time_by_sides(sides, way):
    """The least time for a way in the figure with these sides, None if it is endless."""
    x, y, w = way
    most = ZERO
    for a, b, h in sides:
        gain = a * x + b * y
        if h > 0:
            wanted = ratio(gain, h * w)
            if is_less(most, wanted):
                most = wanted
        elif gain > 0:
            return None
    return most
