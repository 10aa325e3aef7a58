"""Sureness: where a boat that sees each wind as it comes is sure to come to a goal, and how it steers."""
from windfigure.errors import InvalidIndex, InvalidNumber
from windfigure.exact import is_whole
from windfigure.points import need_point
from windfigure.polygons import need_polygon, need_water
from windfigure.shapes import shape_afloat, shape_common, shape_holds, shape_moved, shape_opposite, shape_sum
from windfigure.weathers import need_figures, need_many, need_weather, state_after


def need_state(value, weather):
    if not is_whole(value) or not 0 <= value < len(weather):
        raise InvalidIndex(value)


def need_seen(weather, figures, goal, water, many):
    need_weather(weather)
    need_figures(figures, weather)
    need_polygon(goal)
    need_water(water)
    need_many(many)


def sure_places(weather, figures, goal, water, many, state):
    need_seen(weather, figures, goal, water, many)
    need_state(state, weather)
    return sure_rows(weather, figures, goal, water, many)[state]


def is_sure(weather, figures, goal, water, many, place):
    need_seen(weather, figures, goal, water, many)
    need_point(place)
    places = sure_rows(weather, figures, goal, water, many)[0]
    return places is not None and shape_holds(places, place)


def sure_rows(weather, figures, goal, water, many):
    """The polygon S(q, many) for each state q, None where it is empty."""
    backward = [shape_opposite(figure) for figure in figures]
    rows = [shape_afloat(water, goal) for state in weather]
    for _ in range(many):
        rows = [sure_before(state, backward, water, rows) for state in weather]
    return rows


def sure_before(state, backward, water, rows):
    """The places of the water from which each wind of the state has a velocity into what the rows tell."""
    part = water
    for wind, following in state:
        if rows[following] is None:
            return None
        # Only before the first cut None stands for open water.
        part = shape_afloat(part, shape_sum(rows[following], backward[wind]))
        if part is None:
            return None
    return part


def steer(weather, figures, goal, water, many, place, state, wind):
    need_seen(weather, figures, goal, water, many)
    need_point(place)
    need_state(state, weather)
    following = state_after(weather[state], wind)
    if following is None:
        raise InvalidNumber(wind)
    if water is not None and not shape_holds(water, place):
        return None
    target = sure_rows(weather, figures, goal, water, many - 1)[following]
    if target is None:
        return None
    x, y, w = place
    velocities = shape_common(figures[wind], shape_moved(target, (-x, -y, w)))
    if velocities is None:
        return None
    return velocities[0]
