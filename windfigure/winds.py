"""Winds: the time of a course in a wind, and the winds at which its time turns."""
from windfigure.angles import amid, by_angle, direction_along, neighbours
from windfigure.errors import InvalidCourse, InvalidWind
from windfigure.exact import NOUGHT, ZERO, is_less, point_of, point_sum, ratio, ratio_product, time_sum
from windfigure.figures import need_figure, side_by_sides, time_by_sides
from windfigure.points import is_direction, is_point, need_point, need_time
from windfigure.shapes import shape_sides

MOST_WAYS = 6


def need_wind(value):
    if not is_direction(value):
        raise InvalidWind(value)


def need_course(value):
    if not isinstance(value, tuple) or value == ():
        raise InvalidCourse(None)
    for index, way in enumerate(value):
        if index == MOST_WAYS or not is_point(way) or way == NOUGHT:
            raise InvalidCourse(index)


def time_square(figure, course, wind):
    need_figure(figure)
    need_course(course)
    need_wind(wind)
    return square_in(shape_sides(figure), course, wind)


def square_in(sides, course, wind):
    """The square of the time of the course in the wind, None if it is endless."""
    stretched = stretched_time(sides, course, wind)
    if stretched is None:
        return None
    top, bottom = stretched
    return ratio(top * top, bottom * bottom * length_square(wind))


def stretched_time(sides, course, wind):
    """The time of the course in the wind times the length of the wind, None if it is endless."""
    total = ZERO
    for way in course:
        total = time_sum(total, time_by_sides(sides, way_to_boat(way, wind)))
    return total


def length_square(wind):
    return wind[0] * wind[0] + wind[1] * wind[1]


def is_in_time(figure, course, wind, time):
    need_figure(figure)
    need_course(course)
    need_wind(wind)
    need_time(time)
    square = square_in(shape_sides(figure), course, wind)
    return square is not None and not is_less(ratio_product(time, time), square)


def critical_winds(figure, course):
    need_figure(figure)
    need_course(course)
    return tuple(turning_winds(figure, course))


def turning_winds(figure, course):
    """The critical winds, in their order."""
    return by_angle([direction_along(x * u + y * v, y * u - x * v) for x, y, _ in course for u, v, _ in figure
                     if (u, v) != (0, 0)])


def turned_way(way, wind):
    need_point(way)
    need_wind(wind)
    return way_to_boat(way, wind)


def way_to_boat(way, wind):
    """The way turned back, times the length of the wind."""
    (x, y, w), (c, s) = way, wind
    return point_of(c * x + s * y, c * y - s * x, w)


def pairs_between(sides, course, winds):
    """The pair of the course from each of the winds to the next one, None where its time is endless.

    All critical winds of the course are among the winds.
    """
    return [pair_at(sides, course, amid(begin, end)) for begin, end in neighbours(winds)]


def pair_at(sides, course, wind):
    total = NOUGHT
    for way in course:
        side = side_by_sides(sides, way_to_boat(way, wind))
        if side is None:
            return None
        total = point_sum(total, pair_of(side, way))
    return total


def pair_of(side, way):
    """The pair (A, B) of a side that does not go through nought, as a point."""
    (a, b, h), (x, y, w) = side, way
    return point_of(a * x + b * y, a * y - b * x, h * w)
