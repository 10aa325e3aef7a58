"""Flights: how a chase goes on while the fleer takes one velocity after another, and where it can be met."""
from windfigure.chase import bearing_of, closing_by, least_catch_time, need_chase
from windfigure.errors import InvalidFlight, NotSure
from windfigure.exact import (NOUGHT, ONE, ZERO, along, lesser, point_sum, point_times, ratio_gap, ratio_part,
                              ratio_product, ratio_sum)
from windfigure.figures import is_tack
from windfigure.forms import part_below
from windfigure.polygons import need_polygon
from windfigure.shapes import shape_common, shape_holds, shape_hull, shape_moved, shape_sides

MOST_TURNS = 12


def need_flight(value, fleer):
    if not isinstance(value, tuple) or value == ():
        raise InvalidFlight(None)
    for index, pair in enumerate(value):
        if index == MOST_TURNS or not is_tack(pair) or not shape_holds(fleer[0], pair[0]):
            raise InvalidFlight(index)


def need_sure(chaser, fleer):
    if least_catch_time(chaser, fleer) is None:
        raise NotSure()


def share_left(chaser, fleer, flight):
    need_chase(chaser, fleer)
    need_flight(flight, fleer)
    need_sure(chaser, fleer)
    left, _, _ = chase_along(chaser, fleer, flight)
    return left


def met_in(chaser, fleer, flight):
    need_chase(chaser, fleer)
    need_flight(flight, fleer)
    need_sure(chaser, fleer)
    left, time, place = chase_along(chaser, fleer, flight)
    if left != ZERO:
        return None
    return (time, place)


def chase_along(chaser, fleer, flight):
    """The share of the bearing that is left when the flight ends or the fleer is met, this time, and its place then."""
    sides, bearing = shape_sides(chaser[0]), bearing_of(chaser, fleer)
    if bearing == NOUGHT:
        return (ZERO, ZERO, fleer[1])
    left, gone, place = ONE, ZERO, fleer[1]
    for velocity, length in flight:
        found = closing_by(sides, bearing, velocity)
        # When the fleer has been met nothing is left, and no more time goes by.
        time = lesser(length, ratio_part(left, found))
        left = ratio_gap(left, ratio_product(found, time))
        gone, place = ratio_sum(gone, time), point_sum(place, point_times(velocity, time))
    return (left, gone, place)


def catch_places(chaser, fleer):
    need_chase(chaser, fleer)
    need_sure(chaser, fleer)
    return places_met(chaser, fleer)


def places_met(chaser, fleer):
    sides, bearing = shape_sides(chaser[0]), bearing_of(chaser, fleer)
    if bearing == NOUGHT:
        return (fleer[1],)
    ways = []
    forms = closing_forms(sides, bearing)
    for form in forms:
        for velocity in part_below(fleer[0], [form], forms) or ():
            top, bottom = closing_by(sides, bearing, velocity)
            ways.append(point_times(velocity, (bottom, top)))
    return shape_moved(shape_hull(ways), fleer[1])


def closing_forms(sides, bearing):
    """For each side through which lines along the bearing leave, the form of a velocity that tells its closing."""
    found = []
    for a, b, h in sides:
        top, bottom = along(a, b, bearing)
        if top > 0:
            found.append((-a * bottom, -b * bottom, h * bottom, top))
    return found


def may_reach(chaser, fleer, polygon):
    need_chase(chaser, fleer)
    need_polygon(polygon)
    need_sure(chaser, fleer)
    places = shape_hull(places_met(chaser, fleer) + (fleer[1],))
    return shape_common(places, polygon) is not None
