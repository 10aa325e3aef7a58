"""Courses: the winds in which they can be made, and the soonest and the slowest one."""
from windfigure.angles import direction_along
from windfigure.arcs import ALL_WINDS, rows_round, wind_alone
from windfigure.exact import NOUGHT, is_less, ratio_product
from windfigure.figures import need_figure
from windfigure.points import need_time
from windfigure.shapes import shape_has_within, shape_hull, shape_sides, shape_sum
from windfigure.winds import need_course, pair_of, pairs_between, square_in, turning_winds


def made_in(figure, course):
    need_figure(figure)
    need_course(course)
    sides, winds = shape_sides(figure), turning_winds(figure, course)
    made = [pair is not None for pair in pairs_between(sides, course, winds)]
    if all(made):
        return ALL_WINDS
    for first, last in rows_round(made):
        if made[first]:
            return closed_arc(winds, first, last)
    return made_alone([wind_alone(wind) for wind in winds if square_in(sides, course, wind) is not None])


def closed_arc(winds, first, last):
    """From the wind with the first index to the one behind that with the last index."""
    return (winds[first], True, winds[(last + 1) % len(winds)], True)


def made_alone(arcs):
    """What is told for none, one or two winds."""
    if not arcs:
        return None
    if len(arcs) == 1:
        return arcs[0]
    return tuple(arcs)


def pairs_of(figure, course):
    need_figure(figure)
    need_course(course)
    winds = turning_winds(figure, course)
    pairs = pairs_between(shape_sides(figure), course, winds)
    return tuple([(closed_arc(winds, first, last), pairs[first]) for first, last in rows_round(pairs)
                  if pairs[first] is not None])


def course_polygon(figure, course):
    need_figure(figure)
    need_course(course)
    if not shape_has_within(figure, NOUGHT):
        return None
    sides = shape_sides(figure)
    total = (NOUGHT,)
    for way in course:
        total = shape_sum(total, shape_hull([pair_of(side, way) for side in sides]))
    return total


def slowest(figure, course):
    need_figure(figure)
    need_course(course)
    _, most = least_and_most(figure, course)
    return most


def soonest_wind(figure, course):
    need_figure(figure)
    need_course(course)
    least, _ = least_and_most(figure, course)
    return least


def least_and_most(figure, course):
    """For the least and for the greatest time the pair of a wind and the square of the time; None if there is none."""
    least, most = None, None
    for wind, square in winds_and_squares(figure, course):
        if least is None or is_less(square, least[1]):
            least = (wind, square)
        if most is None or is_less(most[1], square):
            most = (wind, square)
    return (least, most)


def winds_and_squares(figure, course):
    """Pairs of a wind and the square of the time in it, among which are the least and the greatest one.

    The critical winds have all ends of arcs and all outward normals of the course's polygon among them.
    """
    sides, winds = shape_sides(figure), turning_winds(figure, course)
    pairs = pairs_between(sides, course, winds)
    tried = winds + [direction_along(pair[0], pair[1]) for pair in pairs if pair is not None]
    squares = [(wind, square_in(sides, course, wind)) for wind in tried]
    return [(wind, square) for wind, square in squares if square is not None]


def winds_in_time(figure, course, time):
    need_figure(figure)
    need_course(course)
    need_time(time)
    allowed = ratio_product(time, time)
    least, most = least_and_most(figure, course)
    if least is None or is_less(allowed, least[1]):
        return "none"
    if shape_has_within(figure, NOUGHT) and not is_less(allowed, most[1]):
        return "all"
    return "some"
