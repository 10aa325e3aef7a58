"""Notes: what passages that were made, and such that could not be made, tell of an unknown figure."""
from itertools import combinations

from windfigure.errors import InvalidNote, InvalidNotes, NoFigureFits
from windfigure.exact import (NOUGHT, ONE, ZERO, along, bounded, course_to, is_less, lesser, point_sum, point_times,
                              ratio, ratio_part)
from windfigure.figures import is_tack, need_figure, time_by_sides
from windfigure.points import need_point
from windfigure.shapes import cone_sides, shape_holds, shape_hull, shape_sides

MOST_NOTES = 12
MOST_AT_ODDS = 4


def is_note(value):
    if not isinstance(value, tuple) or len(value) != 3 or not isinstance(value[0], str):
        return False
    return value[0] in ("made", "barred") and is_tack(value[1:])


def need_note(value):
    if not is_note(value):
        raise InvalidNote(value)


def need_notes(value):
    if not isinstance(value, tuple):
        raise InvalidNotes(None)
    for index, note in enumerate(value):
        if index == MOST_NOTES or not is_note(note):
            raise InvalidNotes(index)


def need_agreement(notes):
    if not can_be_fitted(notes):
        raise NoFigureFits()


def velocity_of(note):
    need_note(note)
    return noted_velocity(note)


def noted_velocity(note):
    _, way, (top, bottom) = note
    return point_times(way, (bottom, top))


def velocities_with(notes, word):
    return [noted_velocity(note) for note in notes if note[0] == word]


def least_polygon(notes):
    need_notes(notes)
    return hull_of_made(notes)


def hull_of_made(notes):
    return shape_hull([NOUGHT] + velocities_with(notes, "made"))


def fits(notes, figure):
    need_notes(notes)
    need_figure(figure)
    return is_fitted(notes, figure)


def is_fitted(notes, polygon):
    return all([shape_holds(polygon, noted_velocity(note)) == (note[0] == "made") for note in notes])


def some_figure_fits(notes):
    need_notes(notes)
    return can_be_fitted(notes)


def can_be_fitted(notes):
    return not holds_barred(notes, hull_of_made(notes))


def holds_barred(notes, polygon):
    return any([shape_holds(polygon, velocity) for velocity in velocities_with(notes, "barred")])


def contradiction(notes):
    need_notes(notes)
    return first_contradiction(notes)


def first_contradiction(notes):
    for many in range(1, MOST_AT_ODDS + 1):
        for chosen in combinations(range(len(notes)), many):
            if not can_be_fitted([notes[index] for index in chosen]):
                return chosen
    return None


def status_of(notes, velocity):
    need_notes(notes)
    need_point(velocity)
    need_agreement(notes)
    return status_by(notes, (velocity,))


def status_by(notes, velocities):
    """The word for all of these velocities together."""
    least = hull_of_made(notes)
    if all([shape_holds(least, velocity) for velocity in velocities]):
        return "sure"
    if holds_barred(notes, shape_hull(least + velocities)):
        return "never"
    return "open"


def sure_time(notes, way):
    need_notes(notes)
    need_point(way)
    need_agreement(notes)
    return time_by_sides(shape_sides(hull_of_made(notes)), way)


def least_time(notes, way):
    need_notes(notes)
    need_point(way)
    need_agreement(notes)
    least, longest = hull_of_made(notes), ZERO
    for barred in velocities_with(notes, "barred"):
        # Never is what lies behind the barred velocity as it is seen from the least polygon.
        behind = cone_sides([course_to(velocity, barred) for velocity in least])
        times = bounded([(along(a, b, way), along(a, b, barred)) for a, b, _ in behind], ZERO, None)
        if times is not None and is_less(longest, times[1]):
            longest = times[1]
    return longest


def needless_notes(notes):
    need_notes(notes)
    need_agreement(notes)
    return tuple([index for index in range(len(notes)) if is_told(notes[:index] + notes[index + 1:], notes[index])])


def is_told(notes, note):
    """Whether each figure that fits the notes fits this note, too."""
    word = "sure" if note[0] == "made" else "never"
    return status_by(notes, (noted_velocity(note),)) == word


def kept_notes(notes):
    need_notes(notes)
    need_agreement(notes)
    kept = list(range(len(notes)))
    for index in range(len(notes)):
        others = [other for other in kept if other != index]
        if is_told([notes[other] for other in others], notes[index]):
            kept = others
    return tuple(kept)


def tells_all(notes, others):
    need_notes(notes)
    need_notes(others)
    need_agreement(notes)
    return all([is_told(notes, note) for note in others])


def told_beside(notes, figure):
    need_notes(notes)
    need_figure(figure)
    need_agreement(notes)
    return status_by(notes, figure)


def figure_that_fits(notes):
    need_notes(notes)
    need_agreement(notes)
    return some_fitting_figure(notes)


def some_fitting_figure(notes):
    """The least polygon, made wide enough to have an area and no wider than to the next barred velocity."""
    found = hull_of_made(notes)
    while len(found) < 3:
        normal = (1, 0)
        if len(found) == 2:
            u, v = course_to(found[0], found[1])
            normal = (-v, u)
        found = shape_hull(found + (point_beside(found[0], normal, velocities_with(notes, "barred")),))
    return found


def point_beside(corner, normal, barred):
    """A point beside a polygon on a line through nought, along a normal of it, nearer than all barred velocities."""
    a, b = normal
    nearest = ONE
    for velocity in barred:
        gain = along(a, b, velocity)
        if is_less(ZERO, gain):
            nearest = lesser(nearest, gain)
    return point_sum(corner, point_times((a, b, 1), ratio_part(nearest, ratio(2 * (a * a + b * b), 1))))
