"""A slow checker by the words of [55], and random claims with their papers."""
from fractions import Fraction

from tests.helpers import (in_hull, num, random_figure, random_isles, random_outside, random_point, random_polygon,
                           random_weather, slow_afloat, slow_common, slow_free, slow_opposite, slow_sides, slow_sum,
                           slow_support, slow_time, slow_way_time, slow_words, spot)
from tests.slow import (bearing_between, random_chase, random_course, slow_catch_time, slow_closing, slow_square,
                        slow_word)
from tests.test_firsts import random_two, slow_lead, slow_part_corners
from tests.test_notes import random_notes, slow_fitting, slow_velocity
from tests.test_shores import random_shores
from windfigure import certificates
from windfigure.figures import is_figure
from windfigure.gates import is_starter
from windfigure.isles import is_isles
from windfigure.meeting import is_mover
from windfigure.points import is_direction, is_fraction, is_point, is_side
from windfigure.polygons import is_polygon
from windfigure.races import race
from windfigure.weathers import is_weather

NOUGHT = (0, 0, 1)


def is_whole(value):
    return type(value) is int


def is_time(value):
    return is_fraction(value) and value[0] >= 0


def is_tack(value):
    return type(value) is tuple and len(value) == 2 and is_point(value[0]) and is_time(value[1]) and value[1][0] > 0


def are_tacks(value):
    return type(value) is tuple and all(map(is_tack, value))


def is_course(value):
    return type(value) is tuple and 1 <= len(value) <= 6 and all(is_point(way) and way != NOUGHT for way in value)


def are_shores(value):
    return type(value) is tuple and 1 <= len(value) <= 8 and all(map(is_side, value))


def is_note(value):
    return (type(value) is tuple and len(value) == 3 and type(value[0]) is str and value[0] in ("made", "barred")
            and is_tack(value[1:]))


def are_notes(value):
    return type(value) is tuple and len(value) <= 12 and all(map(is_note, value))


def is_many(value):
    return is_whole(value) and 1 <= value <= 6


def is_water(value):
    return value is None or is_polygon(value)


def are_figures(value, weather):
    return (type(value) is tuple and all(map(is_polygon, value))
            and len(value) > max(wind for state in weather for wind, later in state))


def spots_of(polygon):
    return [spot(corner) for corner in polygon]


def is_inside(polygon, others):
    return all(in_hull(place, spots_of(others)) for place in spots_of(polygon))


def check_in_time(paper, figure, way, time):
    if not (is_figure(figure) and is_point(way) and is_time(time) and are_tacks(paper)):
        return False
    made = [sum(num(length) * spot(velocity)[k] for velocity, length in paper) for k in (0, 1)]
    taken = sum(num(length) for velocity, length in paper)
    return tuple(made) == spot(way) and taken <= num(time) and is_inside([velocity for velocity, _ in paper], figure)


def check_too_late(paper, figure, way, time):
    if not (is_figure(figure) and is_point(way) and is_time(time) and is_side(paper)):
        return False
    a, b, h = paper
    if not any(a * q == b * p and a * p + b * q > 0 and a * g == h * p and b * g == h * q
               for p, q, g in slow_sides(figure)):
        return False
    x, y = spot(way)
    return a * x + b * y > num(time) * h


def check_never_later(paper, figure, other):
    return is_figure(figure) and is_figure(other) and paper == () and is_inside(other, figure)


def check_later(paper, figure, other):
    if not (is_figure(figure) and is_figure(other) and is_point(paper)):
        return False
    one, two = slow_time(figure, paper), slow_time(other, paper)
    return two is not None and (one is None or one > two)


def check_never_behind(paper, figure, course, other, its_course):
    if not (is_figure(figure) and is_course(course) and is_figure(other) and is_course(its_course) and paper == ()):
        return False
    words = {word for arc, word in race(figure, course, other, its_course)}
    return "other" not in words


def check_behind(paper, figure, course, other, its_course):
    if not (is_figure(figure) and is_course(course) and is_figure(other) and is_course(its_course)):
        return False
    return is_direction(paper) and slow_word(slow_square(figure, course, paper),
                                             slow_square(other, its_course, paper)) == "other"


def is_known(weather, figures, place, goal, many):
    if not (is_weather(weather) and are_figures(figures, weather)):
        return False
    return is_point(place) and is_polygon(goal) and is_many(many)


def reached_in(word, figures, place):
    here = (place,)
    for wind in word:
        here = slow_sum(here, figures[wind])
    return here


def check_known(paper, weather, figures, place, goal, many):
    if not is_known(weather, figures, place, goal, many) or paper != ():
        return False
    # The order of the winds of a word does not matter.
    winds = {tuple(sorted(word)) for word, state in slow_words(weather, many)}
    return all(slow_common(reached_in(word, figures, place), goal) is not None for word in winds)


def check_barred(paper, weather, figures, place, goal, many):
    if not is_known(weather, figures, place, goal, many) or type(paper) is not tuple or len(paper) != 2:
        return False
    word, side = paper
    if type(word) is not tuple or not all(map(is_whole, word)) or not is_side(side):
        return False
    if word not in [told for told, state in slow_words(weather, many)]:
        return False
    a, b, h = side
    if slow_support(reached_in(word, figures, place), a, b) > h:
        return False
    return -slow_support(goal, -a, -b) > h


def surely_from(weather, figures, goal, water, many):
    rows = [slow_afloat(water, goal) for state in weather]
    for _ in range(many):
        after = []
        for state in weather:
            part = water
            for wind, later in state:
                origins = rows[later] and slow_sum(rows[later], slow_opposite(figures[wind]))
                part = origins and slow_afloat(part, origins)
                if part is None:
                    break
            after.append(part)
        rows = after
    return rows[0]


def is_sure_claim(weather, figures, goal, water, many, place):
    if not (is_weather(weather) and are_figures(figures, weather)):
        return False
    return is_polygon(goal) and is_water(water) and is_many(many) and is_point(place)


def check_sure(paper, weather, figures, goal, water, many, place):
    if not is_sure_claim(weather, figures, goal, water, many, place) or paper != ():
        return False
    found = surely_from(weather, figures, goal, water, many)
    return found is not None and in_hull(spot(place), spots_of(found))


def check_unsure(paper, weather, figures, goal, water, many, place):
    if not is_sure_claim(weather, figures, goal, water, many, place) or paper != ():
        return False
    return not check_sure((), weather, figures, goal, water, many, place)


def is_soonest_claim(figure, isles, start, goal, time):
    if not (is_figure(figure) and is_isles(isles) and is_point(start) and is_point(goal)):
        return False
    return slow_free(isles, start, start) and slow_free(isles, goal, goal) and (time is None or is_time(time))


def leg_time(figure, isles, here, there):
    """None if the leg is not free, or takes an endless time."""
    return slow_way_time(figure, here, there) if slow_free(isles, here, there) else None


def at_most(one, two):
    return two is None or (one is not None and one <= two)


def plus(one, two):
    return None if one is None or two is None else one + two


def check_soonest(paper, figure, isles, start, goal, time):
    if not is_soonest_claim(figure, isles, start, goal, time) or type(paper) is not tuple or len(paper) != 2:
        return False
    (route, heights), time = paper, time and num(time)
    corners = [corner for isle in isles for corner in isle]
    if time is None:
        if route is not None:
            return False
    else:
        if type(route) is not tuple or not 1 <= len(route) <= 40 or not all(map(is_point, route)):
            return False
        times = [leg_time(figure, isles, here, there) for here, there in zip(route, route[1:])]
        if route[0] != start or route[-1] != goal or None in times or sum(times) != time:
            return False
    if type(heights) is not tuple or len(heights) != len(corners):
        return False
    if not all(height is None or is_time(height) for height in heights):
        return False
    known = [(start, Fraction(0))] + [(corner, height and num(height)) for corner, height in zip(corners, heights)]
    for place, height in known:
        for corner, its_height in known[1:]:
            bound = plus(height, leg_time(figure, isles, place, corner))
            if bound is not None and not at_most(its_height, bound):
                # An endless height is above each bound.
                return False
    tells = [plus(height, leg_time(figure, isles, place, goal)) for place, height in known]
    tells = [told for told in tells if told is not None]
    return (min(tells) if tells else None) == time


def check_first(paper, starter, other, polygon):
    if not (is_starter(starter) and is_starter(other) and is_polygon(polygon) and paper == ()):
        return False
    return min(slow_lead(starter, other, corner) for corner in slow_part_corners(other, polygon)) >= 0


def check_not_first(paper, starter, other, polygon):
    if not (is_starter(starter) and is_starter(other) and is_polygon(polygon) and is_point(paper)):
        return False
    return in_hull(spot(paper), spots_of(polygon)) and slow_lead(starter, other, paper) < 0


def check_caught(paper, chaser, fleer, time):
    if not (is_mover(chaser) and is_mover(fleer) and is_time(time) and paper == ()):
        return False
    least = slow_catch_time(chaser, fleer)
    return least is not None and least <= num(time)


def check_free(paper, chaser, fleer, time):
    if not (is_mover(chaser) and is_mover(fleer) and is_time(time) and is_point(paper)):
        return False
    bearing = bearing_between(chaser, fleer)
    if bearing == NOUGHT or not in_hull(spot(paper), spots_of(fleer[0])):
        return False
    closing = slow_closing(chaser[0], bearing, paper)
    return closing is None or closing * num(time) < 1


def check_fits(paper, notes, figure):
    if not (are_notes(notes) and is_figure(figure) and paper == ()):
        return False
    return all(in_hull(slow_velocity(note), spots_of(figure)) == (note[0] == "made") for note in notes)


def check_no_figure(paper, notes):
    if not are_notes(notes) or type(paper) is not tuple or not 1 <= len(paper) <= 4 or not all(map(is_whole, paper)):
        return False
    if list(paper) != sorted(set(paper)) or not all(0 <= index < len(notes) for index in paper):
        return False
    return not slow_fitting(tuple(notes[index] for index in paper))


def check_held_off(paper, polygon, shores):
    if not (is_polygon(polygon) and are_shores(shores) and is_point(paper)):
        return False
    return in_hull(spot(paper), spots_of(polygon)) and all(a * paper[0] + b * paper[1] <= 0 for a, b, h in shores)


def check_embayed(paper, polygon, shores):
    if not (is_polygon(polygon) and are_shores(shores) and type(paper) is tuple and len(paper) == len(shores)):
        return False
    if not all(is_whole(weight) and weight >= 0 for weight in paper):
        return False
    return all(sum(weight * (a * x + b * y) for weight, (a, b, h) in zip(paper, shores)) > 0
               for x, y in spots_of(polygon))


CHECKS = {
    "in time": check_in_time, "too late": check_too_late, "never later": check_never_later, "later": check_later,
    "never behind": check_never_behind, "behind": check_behind, "known": check_known, "barred": check_barred,
    "sure": check_sure, "unsure": check_unsure, "soonest": check_soonest, "first": check_first,
    "not first": check_not_first, "caught": check_caught, "free": check_free, "fits": check_fits,
    "no figure": check_no_figure, "held off": check_held_off, "embayed": check_embayed,
}
PARTS = {"in time": 3, "too late": 3, "never later": 2, "later": 2, "never behind": 4, "behind": 4, "known": 5,
         "barred": 5, "sure": 6, "unsure": 6, "soonest": 5, "first": 3, "not first": 3, "caught": 3, "free": 3,
         "fits": 2, "no figure": 1, "held off": 2, "embayed": 2}
OPPOSITE = {"in time": "too late", "never later": "later", "never behind": "behind", "known": "barred",
            "sure": "unsure", "first": "not first", "caught": "free", "held off": "embayed"}
OPPOSITE.update({other: word for word, other in OPPOSITE.items()})


def slow_accepts(claim, paper):
    if type(claim) is not tuple or claim == () or type(claim[0]) is not str or claim[0] not in CHECKS:
        return False
    if len(claim) != 1 + PARTS[claim[0]]:
        return False
    return bool(CHECKS[claim[0]](paper, *claim[1:]))


def random_time(rng):
    return (rng.randint(0, 6), 1) if rng.random() < 0.5 else (2 * rng.randint(0, 7) + 1, 2)


def random_certificate(rng, kind):
    """A claim of one of the kinds that certificates tell, with its paper."""
    if kind == "way":
        figure = random_figure(rng, 3)
        return certificates.certify_way(figure, random_point(rng, 4), random_time(rng))
    if kind == "boats":
        figure, other = random_figure(rng, 3), random_figure(rng, rng.choice((1, 3)))
        return certificates.certify_boats(figure, rng.choice((figure, other, other)))
    if kind == "race":
        figure, other = random_figure(rng, 3), random_figure(rng, rng.choice((1, 3)))
        course = random_course(rng, 2)
        return certificates.certify_race(figure, course, rng.choice((figure, other)),
                                         rng.choice((course, random_course(rng, 2))))
    if kind in ("known", "sure"):
        weather = random_weather(rng, 2, 3)
        figures = tuple(random_polygon(rng, 4, 2, (1, 1, 2)) for _ in range(rng.randint(3, 4)))
        place, many = random_point(rng, 3, (1,)), rng.randint(1, 2)
        goal = random_polygon(rng, 4, 4, (1,))
        if kind == "known":
            return certificates.certify_known(weather, figures, place, goal, many)
        water = rng.choice((None, random_polygon(rng, 6, 5, (1,))))
        return certificates.certify_sure(weather, figures, goal, water, many, place)
    if kind == "soonest":
        isles = random_isles(rng, 2)
        figure = random_figure(rng, 2)
        return certificates.certify_soonest(figure, isles, random_outside(rng, isles), random_outside(rng, isles))
    if kind == "first":
        return certificates.certify_first(*random_two(rng), random_polygon(rng, 4, 3, (1, 1, 2)))
    if kind == "chase":
        return certificates.certify_chase(*random_chase(rng), random_time(rng))
    if kind == "notes":
        return certificates.certify_notes(random_notes(rng, 6))
    return certificates.certify_shores(random_polygon(rng, 4, 3), random_shores(rng))


KINDS = ("way", "boats", "race", "known", "sure", "soonest", "first", "chase", "notes", "shores")


def places_in(value):
    """All paths to parts of nested tuples, the value itself first."""
    found = [()]
    if isinstance(value, tuple):
        for index, part in enumerate(value):
            found += [(index,) + path for path in places_in(part)]
    return found


def changed(value, path, change):
    if not path:
        return change(value)
    index = path[0]
    return value[:index] + (changed(value[index], path[1:], change),) + value[index + 1:]


def bent(rng, value):
    """The value with one part left out, put in, doubled, turned round, exchanged, made a list, or otherwise changed."""
    path = rng.choice(places_in(value))

    def change(part):
        if not isinstance(part, tuple):
            if type(part) is int:
                return rng.choice((part + 1, part - 1, -part, 2 * part, str(part), None, bool(part), (part,)))
            return rng.choice((None, (), 0, (part,), "made", "barred", True))
        if part == ():
            return rng.choice((None, [], ((),), (0,), ((0, 0, 1),), (((1, 0, 1), (1, 1)),)))
        at = rng.randrange(len(part))
        other = rng.randrange(len(part))
        low, high = min(at, other), max(at, other)
        return rng.choice((
            part[:at] + part[at + 1:], part[:at] + (part[other],) + part[at:], part + part, part[::-1], list(part),
            part[:low] + (part[high],) + part[low + 1:high] + (part[low],) + part[high + 1:] if low < high else (),
            (part,), part[at], (), None, part[at:] + part[:at], tuple(reversed(part))))
    return changed(value, path, change)
