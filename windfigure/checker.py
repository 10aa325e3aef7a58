"""The checker: whether a paper shows a claim."""
from windfigure.boats import first_missed, need_boats
from windfigure.chase import bearing_of, closing_by, least_catch_time, need_chase
from windfigure.errors import WindError
from windfigure.exact import NOUGHT, ONE, ZERO, along, is_less, is_sooner, is_whole, ratio_product, ratio_sum
from windfigure.figures import made_by, may_sail, need_figure, time_by_sides
from windfigure.firsts import is_first_in, lead_at, need_two
from windfigure.notes import can_be_fitted, fits, need_notes
from windfigure.points import is_side, need_point, need_time
from windfigure.polygons import need_polygon
from windfigure.races import first_behind, need_race, word_by_sides
from windfigure.routes import are_kept, heights_tell, need_passage, route_time
from windfigure.shapes import shape_holds, shape_opposite, shape_sides, shape_support
from windfigure.shores import bars, need_shores
from windfigure.sureness import is_sure
from windfigure.weathers import comes_known, is_word, need_known
from windfigure.winds import need_wind

MOST_AT_ODDS = 4


def is_empty(paper):
    return isinstance(paper, tuple) and len(paper) == 0


def is_pair(paper):
    return isinstance(paper, tuple) and len(paper) == 2


# Each of the following functions tells whether a paper shows a claim, whose parts stand before the paper. It raises an
# error for parts that are not valid.

def shows_in_time(figure, way, time, paper):
    need_figure(figure)
    need_point(way)
    need_time(time)
    made, taken = made_by(paper)
    return may_sail(figure, paper) and made == way and not is_less(time, taken)


def shows_too_late(figure, way, time, paper):
    need_figure(figure)
    need_point(way)
    need_time(time)
    if not is_side(paper) or paper not in shape_sides(figure):
        return False
    a, b, h = paper
    return is_less(ratio_product(time, (h, 1)), along(a, b, way))


def shows_never_later(figure, other, paper):
    need_boats(figure, other)
    return is_empty(paper) and first_missed(figure, other) is None


def shows_later(figure, other, paper):
    need_boats(figure, other)
    need_point(paper)
    return is_sooner(time_by_sides(shape_sides(other), paper), time_by_sides(shape_sides(figure), paper))


def shows_never_behind(figure, course, other, its_course, paper):
    need_race(figure, course, other, its_course)
    return is_empty(paper) and first_behind(figure, course, other, its_course) is None


def shows_behind(figure, course, other, its_course, paper):
    need_race(figure, course, other, its_course)
    need_wind(paper)
    return word_by_sides(shape_sides(figure), course, shape_sides(other), its_course, paper) == "other"


def shows_known(weather, figures, place, goal, many, paper):
    return is_empty(paper) and comes_known(weather, figures, place, goal, many)


def shows_barred(weather, figures, place, goal, many, paper):
    need_known(weather, figures, place, goal, many)
    if not is_pair(paper):
        return False
    word, side = paper
    if not is_word(weather, word) or len(word) != many or not is_side(side):
        return False
    a, b, h = side
    reach = along(a, b, place)
    for wind in word:
        reach = ratio_sum(reach, shape_support(figures[wind], a, b))
    # The least number of the goal is the opposite of the support of the opposite polygon.
    top, bottom = shape_support(shape_opposite(goal), a, b)
    return not is_less((h, 1), reach) and is_less((h, 1), (-top, bottom))


def shows_sure(weather, figures, goal, water, many, place, paper):
    return is_empty(paper) and is_sure(weather, figures, goal, water, many, place)


def shows_unsure(weather, figures, goal, water, many, place, paper):
    return is_empty(paper) and not is_sure(weather, figures, goal, water, many, place)


def shows_soonest(figure, isles, start, goal, time, paper):
    need_passage(figure, isles, start, goal)
    if time is not None:
        need_time(time)
    if not is_pair(paper):
        return False
    route, heights = paper
    if not leads_in_time(figure, isles, start, goal, time, route):
        return False
    return are_kept(figure, isles, start, heights) and heights_tell(figure, isles, start, heights, goal) == time


def leads_in_time(figure, isles, start, goal, time, route):
    """Whether a route leads from the start to the goal in this time; None is one for an endless time."""
    if time is None:
        return route is None
    return route_time(figure, isles, route) == time and route[0] == start and route[-1] == goal


def shows_first(starter, other, polygon, paper):
    return is_empty(paper) and is_first_in(starter, other, polygon)


def shows_not_first(starter, other, polygon, paper):
    need_two(starter, other)
    need_polygon(polygon)
    need_point(paper)
    return shape_holds(polygon, paper) and is_less(lead_at(starter, other, paper), ZERO)


def shows_caught(chaser, fleer, time, paper):
    need_chase(chaser, fleer)
    need_time(time)
    least = least_catch_time(chaser, fleer)
    return is_empty(paper) and least is not None and not is_less(time, least)


def shows_free(chaser, fleer, time, paper):
    need_chase(chaser, fleer)
    need_time(time)
    need_point(paper)
    bearing = bearing_of(chaser, fleer)
    if bearing == NOUGHT or not shape_holds(fleer[0], paper):
        return False
    found = closing_by(shape_sides(chaser[0]), bearing, paper)
    return found is None or is_less(ratio_product(found, time), ONE)


def shows_fits(notes, figure, paper):
    return is_empty(paper) and fits(notes, figure)


def shows_no_figure(notes, paper):
    need_notes(notes)
    if not isinstance(paper, tuple) or not 1 <= len(paper) <= MOST_AT_ODDS:
        return False
    if not all([is_whole(index) and 0 <= index < len(notes) for index in paper]):
        return False
    if not all([paper[k - 1] < paper[k] for k in range(1, len(paper))]):
        return False
    return not can_be_fitted([notes[index] for index in paper])


def shows_held_off(polygon, shores, paper):
    need_polygon(polygon)
    need_shores(shores)
    need_point(paper)
    return shape_holds(polygon, paper) and all([a * paper[0] + b * paper[1] <= 0 for a, b, _ in shores])


def shows_embayed(polygon, shores, paper):
    return bars(polygon, shores, paper)


# How many parts a claim has behind its word.
PARTS = {
    "in time": 3, "too late": 3, "never later": 2, "later": 2, "never behind": 4, "behind": 4, "known": 5,
    "barred": 5, "sure": 6, "unsure": 6, "soonest": 5, "first": 3, "not first": 3, "caught": 3, "free": 3, "fits": 2,
    "no figure": 1, "held off": 2, "embayed": 2,
}
CHECKS = {
    "in time": shows_in_time,
    "too late": shows_too_late,
    "never later": shows_never_later,
    "later": shows_later,
    "never behind": shows_never_behind,
    "behind": shows_behind,
    "known": shows_known,
    "barred": shows_barred,
    "sure": shows_sure,
    "unsure": shows_unsure,
    "soonest": shows_soonest,
    "first": shows_first,
    "not first": shows_not_first,
    "caught": shows_caught,
    "free": shows_free,
    "fits": shows_fits,
    "no figure": shows_no_figure,
    "held off": shows_held_off,
    "embayed": shows_embayed,
}


def accepts(claim, paper):
    if not isinstance(claim, tuple) or claim == () or not isinstance(claim[0], str) or claim[0] not in CHECKS:
        return False
    parts = claim[1:]
    if len(parts) != PARTS[claim[0]]:
        return False
    shows = CHECKS[claim[0]]
    try:
        return shows(*parts, paper)
    except WindError:
        return False
