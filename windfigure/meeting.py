"""Meeting: when and where two boats, each with all velocities that it can have, can be at one place."""
from windfigure.errors import InvalidMover
from windfigure.exact import ZERO, along, bounded, point_gap
from windfigure.points import is_point, need_time
from windfigure.polygons import is_polygon
from windfigure.shapes import shape_common, shape_moved, shape_opposite, shape_scaled, shape_sides, shape_sum


def is_mover(value):
    if not isinstance(value, tuple) or len(value) != 2:
        return False
    return is_polygon(value[0]) and is_point(value[1])


def need_mover(value):
    if not is_mover(value):
        raise InvalidMover(value)


def meeting_times(mover, other):
    need_mover(mover)
    need_mover(other)
    (velocities, start), (its_velocities, its_start) = mover, other
    way = point_gap(its_start, start)
    closer = shape_sum(velocities, shape_opposite(its_velocities))
    return bounded([(along(a, b, way), (h, 1)) for a, b, h in shape_sides(closer)], ZERO, None)


def meeting_places(mover, other, time):
    need_mover(mover)
    need_mover(other)
    need_time(time)
    return shape_common(places_after(mover, time), places_after(other, time))


def places_after(mover, time):
    velocities, start = mover
    return shape_moved(shape_scaled(velocities, time), start)
