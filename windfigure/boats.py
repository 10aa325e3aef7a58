"""Boats: whether one is never later than another one, by which handicap, and on which ways."""
from windfigure.angles import amid, by_angle, direction_along, neighbours, tie_between
from windfigure.exact import is_sooner, word_for
from windfigure.figures import need_figure, side_by_sides, time_by_sides
from windfigure.shapes import shape_holds, shape_sides

WORDS = ("sooner", "level", "later", "neither")


def need_boats(figure, other):
    need_figure(figure)
    need_figure(other)


def never_later(figure, other):
    need_boats(figure, other)
    return first_missed(figure, other) is None


def parting_way(figure, other):
    need_boats(figure, other)
    return first_missed(figure, other)


def first_missed(figure, other):
    """The first corner of the other figure that the first one does not hold."""
    for corner in other:
        if not shape_holds(figure, corner):
            return corner
    return None


def handicap(figure, other):
    need_boats(figure, other)
    time, _ = longest_corner(shape_sides(figure), other)
    return time


def longest_corner(sides, other):
    """The greatest time for a corner of the other figure, and the first corner that takes it."""
    corner = other[0]
    time = time_by_sides(sides, corner)
    for later in other[1:]:
        its_time = time_by_sides(sides, later)
        if is_sooner(time, its_time):
            time, corner = its_time, later
    return (time, corner)


def handicap_paper(figure, other):
    need_boats(figure, other)
    sides = shape_sides(figure)
    time, corner = longest_corner(sides, other)
    if time is None:
        return (corner, first_barring(sides, corner))
    return (corner, side_by_sides(sides, corner))


def first_barring(sides, way):
    """The first side through nought that does not hold the way, which cannot be made."""
    for a, b, h in sides:
        if h == 0 and a * way[0] + b * way[1] > 0:
            return (a, b, h)
    return None


def compare_ways(figure, other):
    need_boats(figure, other)
    sides, its_sides = shape_sides(figure), shape_sides(other)
    paces = by_angle([direction_along(x, y) for x, y, _ in figure + other if (x, y) != (0, 0)])
    directions = by_angle(paces + level_directions(sides, its_sides, paces))
    return tuple([(begin, word_along(sides, its_sides, begin), word_along(sides, its_sides, amid(begin, end)))
                  for begin, end in neighbours(directions)])


def level_directions(sides, its_sides, paces):
    """Those strictly between neighbouring paces where both times are equal, but not all between the paces."""
    found = []
    for begin, end in neighbours(paces):
        way = way_along(amid(begin, end))
        # A side (a, b, h) that is met tells the time (a * x + b * y) / h: as a point it is this linear form.
        tie = tie_between(side_by_sides(sides, way), side_by_sides(its_sides, way), begin, end)
        if tie is not None:
            found.append(tie)
    return found


def way_along(direction):
    return (direction[0], direction[1], 1)


def word_along(sides, its_sides, direction):
    way = way_along(direction)
    return word_for(time_by_sides(sides, way), time_by_sides(its_sides, way), WORDS)
