"""Isles, and the legs that are free of them."""
from windfigure.errors import InIsle, InvalidIsles
from windfigure.exact import overshoot, turn
from windfigure.points import need_point
from windfigure.polygons import is_polygon
from windfigure.shapes import shape_common, shape_sides

MOST_ISLES = 6
LEAST_CORNERS = 3
MOST_CORNERS = 6


def is_isles(value):
    return isinstance(value, tuple) and first_no_isle(value) is None


def need_isles(value):
    if not isinstance(value, tuple):
        raise InvalidIsles(None)
    wrong = first_no_isle(value)
    if wrong is not None:
        raise InvalidIsles(wrong)


def first_no_isle(values):
    """The index of the first element of a tuple that is wrong, by itself or beside those before; None if none is."""
    for index, value in enumerate(values):
        if index == MOST_ISLES or not is_isle(value) or touches_any(value, values[:index]):
            return index
    return None


def is_isle(value):
    return is_polygon(value) and LEAST_CORNERS <= len(value) <= MOST_CORNERS


def touches_any(isle, others):
    return any([shape_common(isle, other) is not None for other in others])


def need_outside(value, isles):
    need_point(value)
    if not is_outside(value, isles):
        raise InIsle(value)


def is_outside(point, isles):
    return leg_is_free(barriers_of(isles), point, point)


def corners_of(isles):
    need_isles(isles)
    return all_corners(isles)


def all_corners(isles):
    return tuple([corner for isle in isles for corner in isle])


def is_free(isles, start, goal):
    need_isles(isles)
    need_point(start)
    need_point(goal)
    return leg_is_free(barriers_of(isles), start, goal)


def isles_on(isles, start, goal):
    need_isles(isles)
    need_point(start)
    need_point(goal)
    barriers = barriers_of(isles)
    return tuple([index for index in range(len(isles)) if leg_enters(barriers[index], start, goal)])


def free_legs(isles):
    need_isles(isles)
    barriers, corners = barriers_of(isles), all_corners(isles)
    pairs = [(i, j) for j in range(len(corners)) for i in range(j)]
    return tuple([(i, j) for i, j in sorted(pairs) if leg_is_free(barriers, corners[i], corners[j])])


def barriers_of(isles):
    """Each isle with its sides, so that these are found once for many legs."""
    return [(isle, shape_sides(isle)) for isle in isles]


def leg_is_free(barriers, start, goal):
    for barrier in barriers:
        if leg_enters(barrier, start, goal):
            return False
    return True


def leg_enters(barrier, start, goal):
    """Whether the leg has a point inside the isle."""
    isle, sides = barrier
    for side in sides:
        if overshoot(side, start) >= 0 and overshoot(side, goal) >= 0:
            return False
    if start == goal:
        return True
    turns = [turn(start, goal, corner) for corner in isle]
    return min(turns) < 0 < max(turns)
