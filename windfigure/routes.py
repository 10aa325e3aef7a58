"""Routes round isles: their times, the soonest ones, and the heights that prove these."""
from windfigure.errors import InvalidHeights, InvalidRoute
from windfigure.exact import ZERO, is_sooner, point_gap, time_sum
from windfigure.figures import need_figure, time_by_sides
from windfigure.isles import all_corners, barriers_of, leg_is_free, need_isles, need_outside
from windfigure.network import leg_times, soonest_from, turned_round
from windfigure.points import is_point, is_time
from windfigure.shapes import shape_sides

MOST_POINTS = 40


def need_route(value):
    if not isinstance(value, tuple) or value == ():
        raise InvalidRoute(None)
    for index, point in enumerate(value):
        if index == MOST_POINTS or not is_point(point):
            raise InvalidRoute(index)


def need_heights(value, isles):
    if not isinstance(value, tuple) or len(value) != len(all_corners(isles)):
        raise InvalidHeights(None)
    for index, height in enumerate(value):
        if height is not None and not is_time(height):
            raise InvalidHeights(index)


def need_passage(figure, isles, start, goal):
    need_figure(figure)
    need_isles(isles)
    need_outside(start, isles)
    need_outside(goal, isles)


def route_time(figure, isles, route):
    need_figure(figure)
    need_isles(isles)
    need_route(route)
    sides, barriers = shape_sides(figure), barriers_of(isles)
    total = ZERO
    for index in range(1, len(route)):
        here, there = route[index - 1], route[index]
        if not leg_is_free(barriers, here, there):
            return None
        total = time_sum(total, time_by_sides(sides, point_gap(there, here)))
    return total


def soonest_time(figure, isles, start, goal):
    need_passage(figure, isles, start, goal)
    return time_between(figure, isles, start, goal)


def time_between(figure, isles, start, goal):
    places = (start,) + all_corners(isles) + (goal,)
    found, _ = soonest_from(leg_times(figure, isles, places), 0)
    return found[-1]


def soonest_route(figure, isles, start, goal):
    need_passage(figure, isles, start, goal)
    if start == goal:
        return (start,)
    places = (start,) + all_corners(isles) + (goal,)
    found, before = soonest_from(leg_times(figure, isles, places), 0)
    if found[-1] is None:
        return None
    at = len(places) - 1
    route = [places[at]]
    while at != 0:
        at = before[at]
        route.append(places[at])
    return tuple(reversed(route))


def times_from(figure, isles, start):
    need_figure(figure)
    need_isles(isles)
    need_outside(start, isles)
    found, _ = soonest_from(leg_times(figure, isles, (start,) + all_corners(isles)), 0)
    return tuple(found[1:])


def times_to(figure, isles, goal):
    need_figure(figure)
    need_isles(isles)
    need_outside(goal, isles)
    found, _ = soonest_from(turned_round(leg_times(figure, isles, (goal,) + all_corners(isles))), 0)
    return tuple(found[1:])


def are_kept(figure, isles, start, heights):
    need_figure(figure)
    need_isles(isles)
    need_outside(start, isles)
    need_heights(heights, isles)
    table = leg_times(figure, isles, (start,) + all_corners(isles))
    # The start has the height 0; each leg that is not free or endless bounds nothing.
    bounds = (ZERO,) + heights
    for here, row in zip(bounds, table):
        for there, length in zip(heights, row[1:]):
            if is_sooner(time_sum(here, length), there):
                return False
    return True


def heights_tell(figure, isles, start, heights, goal):
    need_figure(figure)
    need_isles(isles)
    need_outside(start, isles)
    need_heights(heights, isles)
    need_outside(goal, isles)
    sides, barriers = shape_sides(figure), barriers_of(isles)
    told = None
    for place, height in zip((start,) + all_corners(isles), (ZERO,) + heights):
        if leg_is_free(barriers, place, goal):
            total = time_sum(height, time_by_sides(sides, point_gap(goal, place)))
            if is_sooner(total, told):
                told = total
    return told


def holding_up(figure, isles, start, goal):
    need_passage(figure, isles, start, goal)
    whole = time_between(figure, isles, start, goal)
    found = []
    for index in range(len(isles)):
        others = isles[:index] + isles[index + 1:]
        if is_sooner(time_between(figure, others, start, goal), whole):
            found.append(index)
    return tuple(found)
