"""Races: which of two boats is first over its course, in all winds."""
from windfigure.angles import amid, by_angle, neighbours, tie_between
from windfigure.arcs import ALL_WINDS, is_arc, is_in_arc, rows_round
from windfigure.errors import InvalidArc
from windfigure.exact import word_for
from windfigure.figures import need_figure
from windfigure.shapes import shape_sides
from windfigure.winds import need_course, need_wind, pairs_between, stretched_time, turning_winds

WORDS = ("first", "level", "other", "neither")


def need_race(figure, course, other, its_course):
    need_figure(figure)
    need_course(course)
    need_figure(other)
    need_course(its_course)


def race(figure, course, other, its_course):
    need_race(figure, course, other, its_course)
    winds = parting_winds(figure, course, other, its_course)
    words = [word for wind, word in words_in(figure, course, other, its_course, winds)]
    rows = rows_round(words)
    if not rows:
        return ((ALL_WINDS, words[0]),)
    return tuple([(arc_between(winds, first, last), words[first]) for first, last in rows])


def arc_between(winds, first, last):
    """The arc of the pieces from the first to the last index: 2 * k is the k-th wind, 2 * k + 1 what follows it."""
    end = last // 2 + last % 2
    return (winds[first // 2], first % 2 == 0, winds[end % len(winds)], last % 2 == 0)


def parting_winds(figure, course, other, its_course):
    """Winds, in their order, such that between neighbouring ones there is one word."""
    winds = by_angle(turning_winds(figure, course) + turning_winds(other, its_course))
    ours = pairs_between(shape_sides(figure), course, winds)
    theirs = pairs_between(shape_sides(other), its_course, winds)
    ties = [tie_between(one, two, begin, end) for one, two, (begin, end) in zip(ours, theirs, neighbours(winds))]
    return by_angle(winds + [tie for tie in ties if tie is not None])


def words_in(figure, course, other, its_course, winds):
    """Pairs of a wind and its word: for each of the winds, and behind it for one between it and the next one."""
    ours, theirs = shape_sides(figure), shape_sides(other)
    tried = [wind for begin, end in neighbours(winds) for wind in (begin, amid(begin, end))]
    return [(wind, word_by_sides(ours, course, theirs, its_course, wind)) for wind in tried]


def word_by_sides(sides, course, its_sides, its_course, wind):
    return word_for(stretched_time(sides, course, wind), stretched_time(its_sides, its_course, wind), WORDS)


def word_in(figure, course, other, its_course, wind):
    need_race(figure, course, other, its_course)
    need_wind(wind)
    return word_by_sides(shape_sides(figure), course, shape_sides(other), its_course, wind)


def is_never_behind(figure, course, other, its_course):
    need_race(figure, course, other, its_course)
    return first_behind(figure, course, other, its_course) is None


def wind_behind(figure, course, other, its_course):
    need_race(figure, course, other, its_course)
    return first_behind(figure, course, other, its_course)


def first_behind(figure, course, other, its_course):
    winds = parting_winds(figure, course, other, its_course)
    for wind, word in words_in(figure, course, other, its_course, winds):
        if word == "other":
            return wind
    return None


def words_on(figure, course, other, its_course, arc):
    need_race(figure, course, other, its_course)
    if not is_arc(arc):
        raise InvalidArc(arc)
    ends = [wind for wind in (arc[0], arc[2]) if wind is not None]
    # With the ends of the arc among them, all winds between two neighbours are in the arc, or none is.
    winds = by_angle(parting_winds(figure, course, other, its_course) + ends)
    found = [word for wind, word in words_in(figure, course, other, its_course, winds) if is_in_arc(wind, arc)]
    return tuple([word for word in WORDS if word in found])
