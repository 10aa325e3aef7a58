"""Sails: what a boat can do that may change them, and which of them it does not need."""
from itertools import combinations

from windfigure.errors import InvalidSails
from windfigure.figures import is_figure, soonest_tacks
from windfigure.points import need_point
from windfigure.shapes import shape_hull

MOST_SAILS = 8


def need_sails(value):
    if not isinstance(value, tuple) or value == ():
        raise InvalidSails(None)
    for index, sail in enumerate(value):
        if index == MOST_SAILS or not is_figure(sail):
            raise InvalidSails(index)


def joint_figure(sails):
    need_sails(sails)
    return hull_of_sails(sails)


def hull_of_sails(sails):
    return shape_hull([corner for sail in sails for corner in sail])


def carriers(sails):
    need_sails(sails)
    return tuple([carriers_of(sails, corner) for corner in hull_of_sails(sails)])


def carriers_of(sails, corner):
    return tuple([index for index in range(len(sails)) if corner in sails[index]])


def needless_sails(sails):
    need_sails(sails)
    joint = hull_of_sails(sails)
    alone = [carrying[0] for carrying in [carriers_of(sails, corner) for corner in joint] if len(carrying) == 1]
    return tuple([index for index in range(len(sails)) if index not in alone])


def fewest_sails(sails):
    need_sails(sails)
    wanted = [carriers_of(sails, corner) for corner in hull_of_sails(sails)]
    for many in range(1, len(sails)):
        for chosen in combinations(range(len(sails)), many):
            if carry_all(chosen, wanted):
                return chosen
    return tuple(range(len(sails)))


def carry_all(chosen, wanted):
    """Whether for each corner one of the chosen sails is among those that carry it."""
    return all([any([index in carrying for index in chosen]) for carrying in wanted])


def tacks_with_sails(sails, way):
    need_sails(sails)
    need_point(way)
    tacks = soonest_tacks(hull_of_sails(sails), way)
    if tacks is None:
        return None
    return tuple([(carriers_of(sails, velocity)[0], velocity, time) for velocity, time in tacks])
