"""Shores: whether one velocity holds off all of them, and how soon a headland is weathered."""
from windfigure.errors import InvalidShores, InvalidWeights, OffWater
from windfigure.exact import (NOUGHT, ZERO, along, is_less, is_sooner, is_whole, overshoot, parts_along, point_gap,
                              point_sum, point_times, ratio, ratio_product)
from windfigure.figures import need_figure, time_by_sides
from windfigure.points import is_side, need_point, need_side
from windfigure.polygons import need_polygon
from windfigure.shapes import shape_cut, shape_sides, shape_support
from windfigure.winds import length_square, need_wind

MOST_SHORES = 8


def need_shores(value):
    if not isinstance(value, tuple) or value == ():
        raise InvalidShores(None)
    for index, shore in enumerate(value):
        if index == MOST_SHORES or not is_side(shore):
            raise InvalidShores(index)


def need_weights(value, shores):
    if not are_weights(value, len(shores)):
        raise InvalidWeights(value)


def are_weights(value, many):
    if not isinstance(value, tuple) or len(value) != many:
        return False
    return all([is_whole(weight) and weight >= 0 for weight in value])


def holds_off(velocities, shores):
    need_polygon(velocities)
    need_shores(shores)
    return holding(velocities, shores) is not None


def held_with(velocities, shores):
    need_polygon(velocities)
    need_shores(shores)
    part = holding(velocities, shores)
    if part is None:
        return None
    return part[0]


def holding(velocities, shores):
    """The polygon of the velocities that hold off all of the shores, None if there are none."""
    part = velocities
    for a, b, _ in shores:
        part = shape_cut(part, (a, b, 0))
        if part is None:
            return None
    return part


def embayed_by(velocities, shores):
    need_polygon(velocities)
    need_shores(shores)
    return first_embaying(velocities, shores)


def first_embaying(velocities, shores):
    for i in range(len(shores)):
        for j in range(i, len(shores)):
            if holding(velocities, (shores[i], shores[j])) is None:
                return (i, j)
    return None


def bars(velocities, shores, weights):
    need_polygon(velocities)
    need_shores(shores)
    need_weights(weights, shores)
    a = sum([weight * shore[0] for weight, shore in zip(weights, shores)])
    b = sum([weight * shore[1] for weight, shore in zip(weights, shores)])
    return all([a * x + b * y > 0 for x, y, _ in velocities])


def barring_weights(velocities, shores):
    need_polygon(velocities)
    need_shores(shores)
    pair = first_embaying(velocities, shores)
    if pair is None:
        return None
    i, j = pair
    weights = [0 for shore in shores]
    if i == j:
        weights[i] = 1
    else:
        weights[i], weights[j] = weights_of_two(velocities, shores[i], shores[j])
    return tuple(weights)


def weights_of_two(velocities, shore, other):
    """Two weights that bar it, for two shores that cannot be held off together while the first one alone can.

    A corner that holds off the other shore tells a quotient above which the first weight has to be beside the other
    one; a corner that holds off the first shore tells one below which it has to be. Strictly between two quotients
    lies that of the sums of their numbers.
    """
    least, most = None, None
    for x, y, _ in velocities:
        gain, its_gain = shore[0] * x + shore[1] * y, other[0] * x + other[1] * y
        if its_gain <= 0:
            if least is None or is_above((-its_gain, gain), least):
                least = (-its_gain, gain)
        elif gain <= 0:
            if most is None or is_above(most, (its_gain, -gain)):
                most = (its_gain, -gain)
    if least is None:
        return (0, 1)
    return ratio(least[0] + most[0], least[1] + most[1])


def is_above(one, two):
    """Whether the quotient of the first pair is greater; one with 0 below stands for no bound."""
    return one[0] * two[1] > two[0] * one[1]


def holds_in_wind(figure, stream, shore, wind):
    need_figure(figure)
    need_point(stream)
    need_side(shore)
    need_wind(wind)
    (a, b, _), (c, s) = shore, wind
    # How far the boat gets off in an hour without the stream, times the length of the wind.
    reach = shape_support(figure, -a * c - b * s, a * s - b * c)
    square = ratio(reach[0] * reach[0], reach[1] * reach[1] * length_square(wind))
    return is_up_to_root(along(a, b, stream), square)


def is_up_to_root(number, square):
    """Whether the number is at most the root of the other one."""
    return number[0] <= 0 or not is_less(square, ratio_product(number, number))


def winds_off(figure, stream, shore):
    need_figure(figure)
    need_point(stream)
    need_side(shore)
    drift, normal_square = along(shore[0], shore[1], stream), length_square(shore)
    nearest = [ratio(h * h * normal_square, a * a + b * b) for a, b, h in shape_sides(figure)]
    farthest = [ratio((x * x + y * y) * normal_square, w * w) for x, y, w in figure]
    if all([is_up_to_root(drift, square) for square in nearest]):
        return "all"
    if any([is_up_to_root(drift, square) for square in farthest]):
        return "some"
    return "none"


def need_on_water(value, shore):
    need_point(value)
    if overshoot(shore, value) > 0:
        raise OffWater(value)


def need_headland(figure, shore, start, headland):
    need_figure(figure)
    need_side(shore)
    need_on_water(start, shore)
    need_on_water(headland, shore)


def weather_time(figure, shore, start, headland):
    need_headland(figure, shore, start, headland)
    time, _ = soonest_weathering(figure, shore, start, headland)
    return time


def weather_point(figure, shore, start, headland):
    need_headland(figure, shore, start, headland)
    time, point = soonest_weathering(figure, shore, start, headland)
    if time is None:
        return None
    return point


def soonest_weathering(figure, shore, start, headland):
    """The least time, None if it is endless, and a point to which the way takes it.

    A number of times a corner is a way of just so many hours. Where the headland is weathered at the start already,
    this number is 0 for each corner that is not along the normal.
    """
    way, normal = point_gap(headland, start), normal_point(shore)
    best, point = time_by_sides(shape_sides(figure), way), headland
    for corner in figure:
        parts = parts_along(corner, normal, way)
        if are_from_nought(parts) and is_sooner(parts[0], best):
            best, point = parts[0], point_sum(start, point_times(corner, parts[0]))
    return (best, point)


def normal_point(shore):
    return (shore[0], shore[1], 1)


def are_from_nought(parts):
    return parts is not None and not is_less(parts[0], ZERO) and not is_less(parts[1], ZERO)


def weathering_runs(figure, shore, start, headland):
    need_headland(figure, shore, start, headland)
    way = point_gap(headland, start)
    return tuple([index for index in range(len(figure)) if leads_off(figure[index], shore, way)])


def leads_off(corner, shore, way):
    """Whether a corner other than nought, some number of times, leads to a point of the weathering."""
    if corner == NOUGHT:
        return False
    parts = parts_along(corner, normal_point(shore), way)
    if parts is not None:
        return are_from_nought(parts)
    a, b, _ = shore
    # The corner is along the normal: so is the way then, and the corner leads off or the headland is weathered.
    if a * way[1] != b * way[0]:
        return False
    return a * way[0] + b * way[1] >= 0 or a * corner[0] + b * corner[1] < 0
