"""Chase: whether a boat that sees the velocity of another one surely catches it, from where, and how soon."""
from windfigure.errors import InvalidMovers, NoBearing, OutOfPolygon
from windfigure.exact import (NOUGHT, ZERO, along, bounded, course_to, is_less, is_sooner, point_gap, point_sum,
                              point_times, ratio_gap)
from windfigure.meeting import is_mover, need_mover
from windfigure.points import need_point
from windfigure.polygons import need_polygon
from windfigure.shapes import cone_sides, shape_has_within, shape_holds, shape_sides

MOST_MOVERS = 6


def need_bearing(value):
    need_point(value)
    if value == NOUGHT:
        raise NoBearing(value)


def need_chase(chaser, fleer):
    need_mover(chaser)
    need_mover(fleer)


def need_movers(value):
    if not isinstance(value, tuple) or value == ():
        raise InvalidMovers(None)
    for index, mover in enumerate(value):
        if index == MOST_MOVERS or not is_mover(mover):
            raise InvalidMovers(index)


def closing(velocities, bearing, velocity):
    need_polygon(velocities)
    need_bearing(bearing)
    need_point(velocity)
    return closing_by(shape_sides(velocities), bearing, velocity)


def closing_by(sides, bearing, velocity):
    """The closing of a velocity for a chaser whose velocities have these sides, None if there is none."""
    rows = []
    for a, b, h in sides:
        pace = along(a, b, bearing)
        rows.append((ratio_gap(along(a, b, velocity), (h, 1)), (-pace[0], pace[1])))
    found = bounded(rows, None, None)
    if found is None:
        return None
    return found[1]


def bearing_of(chaser, fleer):
    return point_gap(fleer[1], chaser[1])


def is_closed(number):
    """Whether a closing is there and above 0."""
    return number is not None and is_less(ZERO, number)


def catch_time(chaser, fleer):
    need_chase(chaser, fleer)
    return least_catch_time(chaser, fleer)


def least_catch_time(chaser, fleer):
    if bearing_of(chaser, fleer) == NOUGHT:
        return ZERO
    _, least = hardest_corner(chaser, fleer)
    if not is_closed(least):
        return None
    return (least[1], least[0])


def hardest_corner(chaser, fleer):
    """The first corner of the fleer's polygon without a closing above 0, else the first with the least; its closing."""
    sides, bearing = shape_sides(chaser[0]), bearing_of(chaser, fleer)
    chosen, least = None, None
    for corner in fleer[0]:
        found = closing_by(sides, bearing, corner)
        if not is_closed(found):
            return (corner, found)
        if least is None or is_less(found, least):
            chosen, least = corner, found
    return (chosen, least)


def best_flight(chaser, fleer):
    need_chase(chaser, fleer)
    return hardest_velocity(chaser, fleer)


def hardest_velocity(chaser, fleer):
    if bearing_of(chaser, fleer) == NOUGHT:
        return None
    corner, _ = hardest_corner(chaser, fleer)
    return corner


def answer_to(chaser, fleer, velocity):
    need_chase(chaser, fleer)
    need_point(velocity)
    if not shape_holds(fleer[0], velocity):
        raise OutOfPolygon(velocity)
    bearing = bearing_of(chaser, fleer)
    if bearing == NOUGHT:
        return None
    found = closing_by(shape_sides(chaser[0]), bearing, velocity)
    if not is_closed(found):
        return None
    return point_sum(velocity, point_times(bearing, found))


def is_caught_from(velocities, fleeing, bearing):
    need_polygon(velocities)
    need_polygon(fleeing)
    need_bearing(bearing)
    sides = shape_sides(velocities)
    return all([is_closed(closing_by(sides, bearing, corner)) for corner in fleeing])


def catches_always(velocities, fleeing):
    need_polygon(velocities)
    need_polygon(fleeing)
    return is_always_caught(velocities, fleeing)


def is_always_caught(velocities, fleeing):
    return all([shape_has_within(velocities, corner) for corner in fleeing])


def bearing_sides(velocities, fleeing):
    need_polygon(velocities)
    need_polygon(fleeing)
    found = []
    for corner in fleeing:
        if not shape_has_within(velocities, corner):
            # From the rim, and from outside, the chaser's velocities lie within half a turn.
            courses = [course_to(corner, velocity) for velocity in velocities if velocity != corner]
            found = found + [side for side in cone_sides(courses) if side not in found]
    return tuple(found)


def first_catcher(chasers, fleer):
    need_movers(chasers)
    need_mover(fleer)
    best, chosen = None, None
    for index, chaser in enumerate(chasers):
        time = least_catch_time(chaser, fleer)
        if is_sooner(time, best):
            best, chosen = time, index
    if best is None:
        return None
    return (best, chosen)
