"""Wishes: their forms, the names in them, and whether they hold."""
from windfigure.boats import first_missed
from windfigure.chase import is_always_caught
from windfigure.courses import course_polygon
from windfigure.errors import InvalidName, WindError
from windfigure.exact import is_less
from windfigure.figures import time_by_sides
from windfigure.points import need_point, need_time
from windfigure.races import first_behind
from windfigure.shapes import shape_moved, shape_sides
from windfigure.shores import holding, need_shores
from windfigure.winds import need_course

MOST_LETTERS = 12


def is_name(value):
    if not isinstance(value, str) or not 1 <= len(value) <= MOST_LETTERS:
        return False
    return all(["a" <= letter <= "z" for letter in value])


def need_name(value):
    if not is_name(value):
        raise InvalidName(value)


# Behind its word each wish has parts of these kinds.
KINDS = {
    "in time": ("name", "point", "time"),
    "never later": ("name", "name"),
    "never behind": ("name", "course", "name", "course"),
    "all winds": ("name", "course"),
    "catches": ("name", "name"),
    "holds off": ("name", "point", "shores"),
}


def is_wish(value):
    if not isinstance(value, tuple) or value == () or not isinstance(value[0], str) or value[0] not in KINDS:
        return False
    kinds = KINDS[value[0]]
    if len(value) != 1 + len(kinds):
        return False
    return all([is_of_kind(kind, part) for kind, part in zip(kinds, value[1:])])


def is_of_kind(kind, value):
    try:
        need_kind(kind, value)
    except WindError:
        return False
    return True


def need_kind(kind, value):
    if kind == "name":
        need_name(value)
    elif kind == "point":
        need_point(value)
    elif kind == "time":
        need_time(value)
    elif kind == "course":
        need_course(value)
    else:
        need_shores(value)


def names_in(wish):
    return [part for kind, part in zip(KINDS[wish[0]], wish[1:]) if kind == "name"]


# Each of the following functions tells whether a wish holds, from its parts with the figures in the place of the names.

def makes_in_time(figure, way, time):
    least = time_by_sides(shape_sides(figure), way)
    return least is not None and not is_less(time, least)


def is_never_later(figure, other):
    return first_missed(figure, other) is None


def is_nowhere_behind(figure, course, other, its_course):
    return first_behind(figure, course, other, its_course) is None


def makes_in_all_winds(figure, course):
    return course_polygon(figure, course) is not None


def catches_from_anywhere(figure, other):
    return is_always_caught(figure, other)


def can_hold_off(figure, stream, shores):
    return holding(shape_moved(figure, stream), shores) is not None


TESTS = {
    "in time": makes_in_time,
    "never later": is_never_later,
    "never behind": is_nowhere_behind,
    "all winds": makes_in_all_winds,
    "catches": catches_from_anywhere,
    "holds off": can_hold_off,
}


def is_fulfilled(wish, figures):
    """Whether a wish holds with the figures that stand under the names."""
    parts = [figures[part] if kind == "name" else part for kind, part in zip(KINDS[wish[0]], wish[1:])]
    test = TESTS[wish[0]]
    return test(*parts)
