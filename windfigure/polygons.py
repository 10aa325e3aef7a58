"""Polygons: hulls, sides, supports, sums, common parts."""
from windfigure.errors import InvalidFraction, InvalidPoints, InvalidPolygon, InvalidWater
from windfigure.exact import NOUGHT, ZERO, is_less, point_sum, point_times
from windfigure.points import is_point, need_fraction, need_normal, need_point, need_side
from windfigure.shapes import (shape_area, shape_common, shape_cut, shape_has_within, shape_holds, shape_hull,
                               shape_moved, shape_opposite, shape_scaled, shape_sides, shape_sum, shape_support)


def first_no_point(values):
    """The index of the first element of a tuple that is no point; None if all are points."""
    for index, value in enumerate(values):
        if not is_point(value):
            return index
    return None


def is_polygon(value):
    if not isinstance(value, tuple) or value == () or first_no_point(value) is not None:
        return False
    return shape_hull(value) == value


def need_polygon(value):
    if not is_polygon(value):
        raise InvalidPolygon(value)


def need_water(value):
    if value is not None and not is_polygon(value):
        raise InvalidWater(value)


def hull_of(points):
    if not isinstance(points, tuple) or points == ():
        raise InvalidPoints(None)
    wrong = first_no_point(points)
    if wrong is not None:
        raise InvalidPoints(wrong)
    return shape_hull(points)


def sides_of(polygon):
    need_polygon(polygon)
    return shape_sides(polygon)


def holds(polygon, point):
    need_polygon(polygon)
    need_point(point)
    return shape_holds(polygon, point)


def is_within(polygon, point):
    need_polygon(polygon)
    need_point(point)
    return shape_has_within(polygon, point)


def support_of(polygon, normal):
    need_polygon(polygon)
    need_normal(normal)
    return shape_support(polygon, normal[0], normal[1])


def far_corners(polygon, normal):
    need_polygon(polygon)
    need_normal(normal)
    a, b = normal
    top, bottom = shape_support(polygon, a, b)
    return tuple([(x, y, w) for x, y, w in polygon if (a * x + b * y) * bottom == top * w])


def moved(polygon, point):
    need_polygon(polygon)
    need_point(point)
    return shape_moved(polygon, point)


def scaled(polygon, fraction):
    need_polygon(polygon)
    need_fraction(fraction)
    if is_less(fraction, ZERO):
        raise InvalidFraction(fraction)
    return shape_scaled(polygon, fraction)


def opposite_of(polygon):
    need_polygon(polygon)
    return shape_opposite(polygon)


def sum_of(polygon, other):
    need_polygon(polygon)
    need_polygon(other)
    return shape_sum(polygon, other)


def cut_by(polygon, side):
    need_polygon(polygon)
    need_side(side)
    return shape_cut(polygon, side)


def common_part(polygon, other):
    need_polygon(polygon)
    need_polygon(other)
    return shape_common(polygon, other)


def lies_inside(polygon, other):
    need_polygon(polygon)
    need_polygon(other)
    return all([shape_holds(other, corner) for corner in polygon])


def apart(polygon, other):
    need_polygon(polygon)
    need_polygon(other)
    for side in shape_sides(shape_sum(polygon, shape_opposite(other))):
        if side[2] < 0:
            return side
    return None


def area_of(polygon):
    need_polygon(polygon)
    return shape_area(polygon)


def middle_of(polygon):
    need_polygon(polygon)
    total = NOUGHT
    for corner in polygon:
        total = point_sum(total, corner)
    return point_times(total, (1, len(polygon)))
