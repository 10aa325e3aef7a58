"""Certificates: claims that are so, each with a paper that the checker accepts."""
from windfigure.boats import first_barring, first_missed, need_boats
from windfigure.chase import hardest_velocity, least_catch_time, need_chase
from windfigure.exact import ZERO, is_less
from windfigure.figures import need_figure, soonest_tacks, time_and_side
from windfigure.firsts import lowest_lead, need_two
from windfigure.notes import first_contradiction, need_notes, some_fitting_figure
from windfigure.points import need_point, need_time
from windfigure.polygons import need_polygon
from windfigure.races import first_behind, need_race
from windfigure.routes import soonest_route, soonest_time, times_from
from windfigure.shapes import shape_sides
from windfigure.shores import barring_weights, held_with
from windfigure.sureness import is_sure
from windfigure.weathers import need_known, word_and_side


def certify_way(figure, way, time):
    need_figure(figure)
    need_point(way)
    need_time(time)
    sides = shape_sides(figure)
    least, met = time_and_side(sides, way)
    if least is None:
        return (("too late", figure, way, time), first_barring(sides, way))
    if is_less(time, least):
        return (("too late", figure, way, time), sides[met])
    return (("in time", figure, way, time), soonest_tacks(figure, way))


def certify_boats(figure, other):
    need_boats(figure, other)
    way = first_missed(figure, other)
    if way is None:
        return (("never later", figure, other), ())
    return (("later", figure, other), way)


def certify_race(figure, course, other, its_course):
    need_race(figure, course, other, its_course)
    wind = first_behind(figure, course, other, its_course)
    if wind is None:
        return (("never behind", figure, course, other, its_course), ())
    return (("behind", figure, course, other, its_course), wind)


def certify_known(weather, figures, place, goal, many):
    need_known(weather, figures, place, goal, many)
    paper = word_and_side(weather, figures, place, goal, many)
    if paper is None:
        return (("known", weather, figures, place, goal, many), ())
    return (("barred", weather, figures, place, goal, many), paper)


def certify_sure(weather, figures, goal, water, many, place):
    word = "unsure"
    if is_sure(weather, figures, goal, water, many, place):
        word = "sure"
    return ((word, weather, figures, goal, water, many, place), ())


def certify_soonest(figure, isles, start, goal):
    time = soonest_time(figure, isles, start, goal)
    paper = (soonest_route(figure, isles, start, goal), times_from(figure, isles, start))
    return (("soonest", figure, isles, start, goal, time), paper)


def certify_first(starter, other, polygon):
    need_two(starter, other)
    need_polygon(polygon)
    least, place = lowest_lead(starter, other, polygon)
    if is_less(least, ZERO):
        return (("not first", starter, other, polygon), place)
    return (("first", starter, other, polygon), ())


def certify_chase(chaser, fleer, time):
    need_chase(chaser, fleer)
    need_time(time)
    least = least_catch_time(chaser, fleer)
    if least is None or is_less(time, least):
        return (("free", chaser, fleer, time), hardest_velocity(chaser, fleer))
    return (("caught", chaser, fleer, time), ())


def certify_notes(notes):
    need_notes(notes)
    paper = first_contradiction(notes)
    if paper is None:
        return (("fits", notes, some_fitting_figure(notes)), ())
    return (("no figure", notes), paper)


def certify_shores(velocities, shores):
    velocity = held_with(velocities, shores)
    if velocity is None:
        return (("embayed", velocities, shores), barring_weights(velocities, shores))
    return (("held off", velocities, shores), velocity)
