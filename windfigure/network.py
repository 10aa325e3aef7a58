"""Soonest times over the free legs between finitely many places."""
from windfigure.exact import ZERO, is_sooner, point_gap, time_sum
from windfigure.figures import time_by_sides
from windfigure.isles import barriers_of, leg_is_free
from windfigure.shapes import shape_sides


def leg_times(figure, isles, places):
    """For each place, a list with the time of the leg to each other place; None if it is endless or not free."""
    sides, barriers = shape_sides(figure), barriers_of(isles)
    table = [[None for there in places] for here in places]
    for i in range(len(places)):
        for j in range(i):
            if leg_is_free(barriers, places[i], places[j]):
                table[i][j] = time_by_sides(sides, point_gap(places[j], places[i]))
                table[j][i] = time_by_sides(sides, point_gap(places[i], places[j]))
    return table


def turned_round(table):
    """The same table for the ways back."""
    return [[row[index] for row in table] for index in range(len(table))]


def soonest_from(table, source):
    """The soonest time from the source to each place, and the place before each one on a soonest route.

    Only a time that is less puts another place before one; so no place that is the same as the source, or as the one
    that is come to, stands between these two.
    """
    found, before = [None for row in table], [None for row in table]
    found[source] = ZERO
    waiting = list(range(len(table)))
    while waiting:
        here = soonest_of(waiting, found)
        waiting.remove(here)
        for there in waiting:
            total = time_sum(found[here], table[here][there])
            if is_sooner(total, found[there]):
                found[there], before[there] = total, here
    return found, before


def soonest_of(waiting, found):
    """The first of the places that wait with the least time."""
    best = waiting[0]
    for place in waiting:
        if is_sooner(found[place], found[best]):
            best = place
    return best
