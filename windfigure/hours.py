"""Hours: where a boat can be after given hours in a water, and when it can first be somewhere."""
from windfigure.errors import InvalidHours, InvalidPlaces, InvalidTime
from windfigure.exact import ZERO, bounded, is_less, lesser, point_gap, point_times, ratio_gap, ratio_sum
from windfigure.points import is_time, need_time
from windfigure.polygons import first_no_point, is_polygon, need_polygon, need_water
from windfigure.shapes import (shape_afloat, shape_common, shape_holds, shape_moved, shape_opposite, shape_scaled,
                               shape_sides, shape_sum, shape_support)

MOST_HOURS = 12


def is_hour(value):
    if not isinstance(value, tuple) or len(value) != 2:
        return False
    return is_polygon(value[0]) and is_time(value[1]) and value[1] != ZERO


def need_hours(value):
    if not isinstance(value, tuple):
        raise InvalidHours(None)
    for index, hour in enumerate(value):
        if index == MOST_HOURS or not is_hour(hour):
            raise InvalidHours(index)


def need_time_within(hours, time):
    need_time(time)
    if is_less(whole_time(hours), time):
        raise InvalidTime(time)


def need_places(value):
    if not isinstance(value, tuple):
        raise InvalidPlaces(None)
    wrong = first_no_point(value)
    if wrong is not None:
        raise InvalidPlaces(wrong)


def whole_time(hours):
    total = ZERO
    for _, length in hours:
        total = ratio_sum(total, length)
    return total


def reached(water, hours, start):
    need_water(water)
    need_hours(hours)
    need_polygon(start)
    return stages(water, hours, start)[-1]


def stages(water, hours, start):
    """What can be reached by the beginning and then by the end of each hour, None for nothing."""
    here = shape_afloat(water, start)
    found = [here]
    for hour in hours:
        here = after_hour(water, here, hour)
        found.append(here)
    return found


def after_hour(water, here, hour):
    if here is None:
        return None
    velocities, length = hour
    return shape_afloat(water, shape_sum(here, shape_scaled(velocities, length)))


def places_from(water, hours, goal):
    need_water(water)
    need_hours(hours)
    need_polygon(goal)
    return stages(water, turned_back(hours), goal)[-1]


def hours_back(hours):
    need_hours(hours)
    return turned_back(hours)


def turned_back(hours):
    return tuple([(shape_opposite(velocities), length) for velocities, length in reversed(hours)])


def hours_until(hours, time):
    need_hours(hours)
    need_time_within(hours, time)
    kept = []
    left = time
    for velocities, length in hours:
        if left == ZERO:
            break
        part = lesser(length, left)
        kept.append((velocities, part))
        left = ratio_gap(left, part)
    return tuple(kept)


def hours_from(hours, time):
    need_hours(hours)
    need_time_within(hours, time)
    kept = []
    left = time
    for velocities, length in hours:
        gone = lesser(length, left)
        left = ratio_gap(left, gone)
        if gone != length:
            kept.append((velocities, ratio_gap(length, gone)))
    return tuple(kept)


def earliest(water, hours, start, goal):
    need_water(water)
    need_hours(hours)
    need_polygon(start)
    need_polygon(goal)
    return first_time(water, hours, start, goal)


def first_time(water, hours, start, goal):
    aim = shape_afloat(water, goal)
    here = shape_afloat(water, start)
    if aim is None or here is None:
        return None
    if shape_common(here, aim) is not None:
        return ZERO
    gone = ZERO
    for hour in hours:
        wait = time_within(here, hour, aim)
        if wait is not None:
            return ratio_sum(gone, wait)
        here = after_hour(water, here, hour)
        if here is None:
            return None
        gone = ratio_sum(gone, hour[1])
    return None


def time_within(here, hour, aim):
    """The first time of an hour at which a boat can be in the aim, None if there is none.

    The boat is there at a time t if the sum of both supports and t times that of the velocities is nowhere below 0.
    """
    velocities, length = hour
    gap = shape_sum(here, shape_opposite(aim))
    rows = []
    for a, b, _ in shape_sides(shape_sum(gap, velocities)):
        still = shape_support(gap, a, b)
        rows.append(((-still[0], still[1]), shape_support(velocities, a, b)))
    found = bounded(rows, ZERO, length)
    if found is None:
        return None
    return found[0]


def latest(water, hours, start, goal):
    need_water(water)
    need_hours(hours)
    need_polygon(start)
    need_polygon(goal)
    wait = first_time(water, turned_back(hours), goal, start)
    if wait is None:
        return None
    return ratio_gap(whole_time(hours), wait)


def plan(water, hours, start, goal):
    need_water(water)
    need_hours(hours)
    need_polygon(start)
    need_polygon(goal)
    found = stages(water, hours, start)
    if found[-1] is None:
        return None
    ends = shape_common(found[-1], goal)
    if ends is None:
        return None
    return backward(hours, found, ends[0])


def backward(hours, found, end):
    """Places to keep to, one of each stage, told from the last one back to the first."""
    places = [end]
    for index in reversed(range(len(hours))):
        velocities, length = hours[index]
        origins = shape_moved(shape_opposite(shape_scaled(velocities, length)), places[-1])
        places.append(shape_common(found[index], origins)[0])
    return tuple(reversed(places))


def is_plan(water, hours, places):
    need_water(water)
    need_hours(hours)
    need_places(places)
    if len(places) != len(hours) + 1:
        return False
    if water is not None and not all([shape_holds(water, place) for place in places]):
        return False
    return all([can_go(hours[index], places[index], places[index + 1]) for index in range(len(hours))])


def can_go(hour, place, following):
    velocities, (top, bottom) = hour
    return shape_holds(velocities, point_times(point_gap(following, place), (bottom, top)))
