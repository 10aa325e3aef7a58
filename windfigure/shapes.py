"""Polygons, for arguments that are known to be right: the functions of polygons.py check, and then call these."""
from math import lcm

from windfigure.exact import (NOUGHT, ZERO, along, course_to, is_before, is_less, overshoot, point_of, point_sum,
                              point_times, ratio, ratio_sum, side_of)

AXES = ((1, 0), (0, 1), (-1, 0), (0, -1))


def shape_hull(points):
    """The polygon that is the hull of one or more points."""
    # Over one common denominator all that follows is done with whole numbers.
    bottom = 1
    for point in points:
        bottom = lcm(bottom, point[2])
    spots = sorted({(x * (bottom // w), y * (bottom // w)) for x, y, w in points})
    if len(spots) > 1:
        spots = half_hull(spots)[:-1] + half_hull(spots[::-1])[:-1]
    return tuple([point_of(x, y, bottom) for x, y in spots])


def half_hull(spots):
    """Of ordered spots those that lie to the right of all ways from a spot before to one behind, with both ends."""
    chain = []
    for x, y in spots:
        while len(chain) > 1:
            (u, v), (s, t) = chain[-2], chain[-1]
            if (s - u) * (y - v) - (t - v) * (x - u) > 0:
                break
            chain.pop()
        chain.append((x, y))
    return chain


def from_least(corners):
    """The same corners in the same round, from the least one on."""
    least = 0
    for index in range(len(corners)):
        if is_before(corners[index], corners[least]):
            least = index
    return tuple(corners[least:] + corners[:least])


def edge_courses(corners):
    """Whole numbers along each edge, there and back for a stretch, none for a point."""
    if len(corners) == 1:
        return []
    return [course_to(corners[index - 1], corners[index]) for index in range(1, len(corners))] + [
        course_to(corners[-1], corners[0])]


def shape_sides(corners):
    """The sides of a polygon, in the order of the document."""
    if len(corners) > 2:
        return tuple([side_of(v, -u, along(v, -u, corner)) for (u, v), corner in zip(edge_courses(corners), corners)])
    normals = AXES
    if len(corners) == 2:
        u, v = course_to(corners[0], corners[1])
        normals = ((v, -u), (u, v), (-v, u), (-u, -v))
    return tuple([side_of(a, b, shape_support(corners, a, b)) for a, b in normals])


def shape_support(corners, a, b):
    most = along(a, b, corners[0])
    for corner in corners[1:]:
        reach = along(a, b, corner)
        if is_less(most, reach):
            most = reach
    return most


def shape_holds(corners, point):
    return all([overshoot(side, point) <= 0 for side in shape_sides(corners)])


def shape_has_within(corners, point):
    """Whether the polygon holds the point, and the point is on the line of no side."""
    return all([overshoot(side, point) < 0 for side in shape_sides(corners)])


def shape_moved(corners, way):
    return tuple([point_sum(corner, way) for corner in corners])


def shape_scaled(corners, fraction):
    """The polygon times a fraction from 0 on."""
    if fraction == ZERO:
        return (NOUGHT,)
    return tuple([point_times(corner, fraction) for corner in corners])


def shape_opposite(corners):
    return from_least([(-x, -y, w) for x, y, w in corners])


def shape_sum(one, two):
    """The edges of both polygons are walked in the order of their angles, from the least corners on."""
    first, second = edge_courses(one), edge_courses(two)
    corners = [point_sum(one[0], two[0])]
    i, j = 0, 0
    while i < len(first) or j < len(second):
        order = -1
        if i == len(first):
            order = 1
        elif j < len(second):
            order = edge_order(first[i], second[j])
        if order <= 0:
            i += 1
        if order >= 0:
            j += 1
        corners.append(point_sum(one[i % len(one)], two[j % len(two)]))
    if len(corners) > 1:
        # The walk ends where it began.
        corners.pop()
    return tuple(corners)


def edge_order(one, two):
    """Below 0 if the first edge is the earlier one, above 0 if the other one is, 0 if both have one direction.

    The edges that the walk compares lie less than half a turn apart: from one edge to the next one a polygon turns by
    less than that, or by just that for a stretch, and the first edges of both lead away from the least corners.
    """
    (u, v), (s, t) = one, two
    return v * s - u * t


def shape_cut(corners, side):
    """What the side holds of the polygon, None if nothing."""
    kept = []
    overs = [overshoot(side, corner) for corner in corners]
    for index in range(len(corners)):
        before = index - 1
        if overs[before] * overs[index] < 0:
            met = crossing(corners[before], overs[before], corners[index], overs[index])
            # Both edges of a stretch, there and back, cross the line at one point.
            if met not in kept:
                kept.append(met)
        if overs[index] <= 0:
            kept.append(corners[index])
    if not kept:
        return None
    return from_least(kept)


def crossing(one, over, two, its_over):
    """Where the stretch between two points on different sides of a line meets it."""
    x, y, w = [over * its_part - its_over * part for part, its_part in zip(one, two)]
    return point_of(x, y, w)


def shape_common(one, two):
    """The common part of two polygons, None if there is none."""
    part = one
    for side in shape_sides(two):
        part = shape_cut(part, side)
        if part is None:
            return None
    return part


def shape_afloat(water, corners):
    """What of the polygon lies in the water, None if nothing."""
    if water is None:
        return corners
    return shape_common(corners, water)


def shape_area(corners):
    twice = ZERO
    for index in range(len(corners)):
        (x, y, w), (u, v, t) = corners[index - 1], corners[index]
        twice = ratio_sum(twice, ratio(x * v - y * u, w * t))
    return ratio(twice[0], 2 * twice[1])


def cone_sides(courses):
    """Sides that together hold just the sums of numbers from 0 on times the courses.

    A course is a pair of whole numbers, not both 0. All lie in one half of the plane, its rim included.
    """
    found = []
    for u, v in courses:
        for a, b in ((v, -u), (-v, u)):
            side = side_of(a, b, ZERO)
            if side not in found and all([a * x + b * y <= 0 for x, y in courses]):
                found.append(side)
    if not courses:
        return [side_of(a, b, ZERO) for a, b in AXES]
    u, v = courses[0]
    if all([u * y == v * x and u * x + v * y > 0 for x, y in courses]):
        # All go one way: what is against them is barred as well as what is beside.
        found.append(side_of(-u, -v, ZERO))
    return found
