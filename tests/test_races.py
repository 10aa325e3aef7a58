"""[23]: which of two boats is first over its course, in all winds."""
import random
import unittest

from tests.helpers import (NOT_DIRECTION, NOT_FIGURE, check_arguments, pt, random_figure, spot, wrong_given,
                           wrong_index)
from tests.slow import (many_directions, random_course, slow_amid, slow_critical, slow_in_arc, slow_square, slow_word,
                        turn_key)
from tests.wrong import BEAM, BOX, DIAMOND, KITE, NOT_ARC, WEDGE, WRONG_COURSE
from windfigure.errors import InvalidArc, InvalidCourse, InvalidFigure, InvalidWind
from windfigure.points import is_direction
from windfigure.races import is_never_behind, race, wind_behind, word_in, words_on

EAST = ((1, 0, 1),)
ROUND = ((1, 0, 1), (-1, 0, 1))
BENT = ((1, 1, 1), (1, -1, 1))
WEST = ((-1, 0, 1),)
ALL = (None, True, None, True)
DOUBLE = ((-2, 0, 1), (0, -2, 1), (2, 0, 1), (0, 2, 1))
WORDS = ("first", "level", "other", "neither")
RIGHT = ((0, 0, 1), (1, 0, 1), (0, 1, 1))


def single(wind):
    return (wind, True, wind, True)


def slow_word_in(figure, course, other, its_course, wind):
    return slow_word(slow_square(figure, course, wind), slow_square(other, its_course, wind))


def random_case(rng):
    """Two boats and courses, at times alike or nearly alike."""
    figure, course = random_figure(rng, 3), random_course(rng, 2)
    if rng.random() < 0.4:
        figure = rng.choice([KITE, DIAMOND, BOX, WEDGE, BEAM])
    other, its_course = random_figure(rng, 3), random_course(rng, 2)
    if rng.random() < 0.3:
        other = rng.choice([KITE, DIAMOND, BOX, WEDGE, BEAM, figure])
    if rng.random() < 0.4:
        its_course = course
    elif rng.random() < 0.3:
        its_course = tuple(pt(-y, x) for x, y in map(spot, course))
    return figure, course, other, its_course


def ends_of(pairs):
    return {wind for arc, word in pairs for wind in (arc[0], arc[2]) if wind is not None}


def rose(figure, course, other, its_course, pairs):
    return many_directions(*slow_critical(figure, course), *slow_critical(other, its_course), *ends_of(pairs))


class Races(unittest.TestCase):
    def test_the_example(self):
        self.assertEqual(race(WEDGE, EAST, BOX, EAST), ((((1, 1), False, (1, -1), False), "other"),
                                                        (((1, -1), True, (1, 1), True), "level")))
        self.assertEqual(race(BOX, EAST, WEDGE, EAST), ((((1, 1), False, (1, -1), False), "first"),
                                                        (((1, -1), True, (1, 1), True), "level")))

    def test_single_winds_and_neighbours(self):
        axes = ((1, 0), (0, 1), (-1, 0), (0, -1))
        rows = []
        for k in range(4):
            rows += [(single(axes[k]), "level"), ((axes[k], False, axes[(k + 1) % 4], False), "other")]
        self.assertEqual(race(DIAMOND, EAST, BOX, EAST), tuple(rows))
        # Two neighbours that meet at a wind which the one has.
        self.assertEqual(race(WEDGE, EAST, DIAMOND, WEST), (
            (single((1, 0)), "level"), (((1, 0), False, (1, 1), True), "first"),
            (((1, 1), False, (1, -1), False), "other"), (((1, -1), True, (1, 0), False), "first")))

    def test_all_winds_as_one_arc(self):
        self.assertEqual(race(BOX, EAST, BOX, EAST), ((ALL, "level"),))
        self.assertEqual(race(WEDGE, ROUND, NARROW, ROUND), ((ALL, "neither"),))
        self.assertEqual(race(DOUBLE, EAST, DIAMOND, EAST), ((ALL, "first"),))
        self.assertEqual(race(DIAMOND, EAST, DOUBLE, EAST), ((ALL, "other"),))
        self.assertEqual(race(DIAMOND, EAST, DIAMOND, WEST), ((ALL, "level"),))

    def test_all_but_one_wind(self):
        # The other one can be made in one wind alone.
        self.assertEqual(race(WEDGE, BENT, NARROW, BENT), ((single((1, 0)), "first"),
                                                           (((1, 0), False, (1, 0), False), "neither")))
        self.assertEqual(race(BOX, EAST, WEDGE, BENT), ((ALL, "first"),))
        self.assertEqual(race(WEDGE, BENT, DIAMOND, ((2, 0, 1),)), ((single((1, 0)), "level"),
                                                                    (((1, 0), False, (1, 0), False), "other")))

    def test_two_opposite_winds(self):
        self.assertEqual(race(BEAM, ROUND, WEDGE, ROUND), (
            (single((1, 0)), "first"), (((1, 0), False, (-1, 0), False), "neither"), (single((-1, 0)), "first"),
            (((-1, 0), False, (1, 0), False), "neither")))

    def test_every_word(self):
        # Going round, neither can, then the one alone, then both, now sooner now later, then neither.
        found = race(RIGHT, ((2, 0, 1),), ((0, 0, 1), (2, 0, 1), (0, 1, 1)), ((2, 1, 1),))
        self.assertEqual({word for arc, word in found}, set(WORDS))
        self.check_race(RIGHT, ((2, 0, 1),), ((0, 0, 1), (2, 0, 1), (0, 1, 1)), ((2, 1, 1),), found)

    def test_ties_between_critical_winds(self):
        # Two boats with one corner ahead of another: the tie lies along neither's corners.
        found = race(KITE, EAST, DOUBLE, EAST)
        critical = set(slow_critical(KITE, EAST)) | set(slow_critical(DOUBLE, EAST))
        self.assertTrue(ends_of(found) - critical)
        self.check_race(KITE, EAST, DOUBLE, EAST, found)

    def test_random_ones(self):
        rng = random.Random(1)
        seen, ties = {}, 0
        for _ in range(150):
            case = random_case(rng)
            found = race(*case)
            self.check_race(*case, found)
            ties += len(ends_of(found) - set(slow_critical(*case[:2])) - set(slow_critical(*case[2:])))
            for arc, word in found:
                kind = "all" if arc == ALL else "single" if arc[0] == arc[2] and arc[1] else "arc"
                seen[word, kind] = seen.get((word, kind), 0) + 1
        self.assertGreater(ties, 30)
        self.assertEqual({word for word, kind in seen}, set(WORDS))
        self.assertTrue(all(seen.get(key, 0) > 0 for key in (("level", "single"), ("level", "arc"), ("first", "all"),
                                                             ("neither", "arc"))), seen)

    def check_race(self, figure, course, other, its_course, found):
        for wind in rose(figure, course, other, its_course, found):
            words = [word for arc, word in found if slow_in_arc(wind, arc)]
            self.assertEqual(words, [slow_word_in(figure, course, other, its_course, wind)])
        if found[0][0] == ALL:
            self.assertEqual(len(found), 1)
            return
        begins = [(turn_key(arc[0]), not arc[1]) for arc, word in found]
        self.assertEqual(begins, sorted(set(begins)))
        for k in range(len(found)):
            (before, its_word), (arc, word) = found[k - 1], found[k]
            # Each begins where the one before it ends, with another word; one of both has this wind.
            self.assertEqual((before[2], before[3]), (arc[0], not arc[1]))
            self.assertNotEqual(its_word, word)
            self.assertTrue(is_direction(arc[0]) and isinstance(arc[1], bool) and isinstance(arc[3], bool))


class Words(unittest.TestCase):
    def test_in_a_wind(self):
        self.assertEqual(word_in(DIAMOND, EAST, BOX, EAST, (1, 1)), "other")
        self.assertEqual(word_in(BOX, EAST, DIAMOND, EAST, (1, 1)), "first")
        self.assertEqual(word_in(DIAMOND, EAST, BOX, EAST, (0, -1)), "level")
        self.assertEqual(word_in(WEDGE, EAST, BOX, EAST, (-1, 0)), "other")
        self.assertEqual(word_in(BOX, EAST, WEDGE, EAST, (-1, 0)), "first")
        self.assertEqual(word_in(WEDGE, EAST, WEDGE, BENT, (-1, 0)), "neither")
        # Just beside the wind in which both are level.
        self.assertEqual(word_in(DIAMOND, EAST, BOX, EAST, (10 ** 20, 1)), "other")
        self.assertEqual(word_in(WEDGE, EAST, BOX, EAST, (10 ** 20, 10 ** 20 + 1)), "other")
        self.assertEqual(word_in(WEDGE, EAST, BOX, EAST, (10 ** 20 + 1, 10 ** 20)), "level")

    def test_random_ones(self):
        rng = random.Random(2)
        seen = {}
        for _ in range(300):
            case = random_case(rng)
            wind = rng.choice(sorted(ends_of(race(*case)) | {(1, 0)}))
            if rng.random() < 0.5:
                wind = slow_amid(wind, rng.choice(slow_critical(*case[2:])))
            word = slow_word_in(*case, wind)
            seen[word] = seen.get(word, 0) + 1
            self.assertEqual(word_in(*case, wind), word)
        self.assertEqual(set(seen), set(WORDS))
        self.assertGreater(min(seen.values()), 15, seen)


class Behind(unittest.TestCase):
    def test_examples(self):
        self.assertIs(is_never_behind(BOX, EAST, DIAMOND, EAST), True)
        self.assertIs(is_never_behind(DIAMOND, EAST, BOX, EAST), False)
        self.assertIs(is_never_behind(BOX, EAST, BOX, EAST), True)
        self.assertIs(is_never_behind(BOX, EAST, WEDGE, EAST), True)
        self.assertIs(is_never_behind(WEDGE, EAST, BOX, EAST), False)
        self.assertIs(is_never_behind(WEDGE, ROUND, NARROW, BENT), True)
        self.assertIsNone(wind_behind(BOX, EAST, DIAMOND, EAST))
        self.assertEqual(word_in(DIAMOND, EAST, BOX, EAST, wind_behind(DIAMOND, EAST, BOX, EAST)), "other")

    def test_behind_in_a_single_wind(self):
        self.assertEqual(wind_behind(WEDGE, ROUND, WEDGE, BENT), (1, 0))
        self.assertEqual(wind_behind(WEDGE, ROUND, WEDGE, ((-1, -1, 1), (-1, 1, 1))), (-1, 0))
        self.assertIn(wind_behind(WEDGE, ROUND, BEAM, ROUND), ((1, 0), (-1, 0)))
        self.assertIs(is_never_behind(WEDGE, ROUND, WEDGE, BENT), False)

    def test_random_ones(self):
        rng = random.Random(3)
        seen = {True: 0, False: 0}
        for _ in range(150):
            case = random_case(rng)
            words = {word for arc, word in race(*case)}
            told, wind = is_never_behind(*case), wind_behind(*case)
            self.assertIs(told, "other" not in words)
            seen[told] += 1
            if told:
                self.assertIsNone(wind)
            else:
                self.assertTrue(is_direction(wind))
                self.assertEqual(slow_word_in(*case, wind), "other")
        self.assertGreater(min(seen.values()), 10, seen)


def slow_words_on(case, arc):
    """The words of the winds in the arc, tried at all ends of arcs of the race and of this one, and between them."""
    pairs = race(*case)
    winds = many_directions(*ends_of(pairs), *[wind for wind in (arc[0], arc[2]) if wind is not None])
    found = {slow_word_in(*case, wind) for wind in winds if slow_in_arc(wind, arc)}
    return tuple(word for word in WORDS if word in found)


class WordsOn(unittest.TestCase):
    def test_with_and_without_ends(self):
        case = (DIAMOND, EAST, BOX, EAST)
        self.assertEqual(words_on(*case, ((1, 0), False, (1, 1), True)), ("other",))
        self.assertEqual(words_on(*case, ((1, 0), True, (1, 1), True)), ("level", "other"))
        self.assertEqual(words_on(*case, ((1, 0), False, (0, 1), False)), ("other",))
        self.assertEqual(words_on(*case, ((1, 0), False, (0, 1), True)), ("level", "other"))
        self.assertEqual(words_on(*case, ((1, 1), False, (1, 2), False)), ("other",))
        self.assertEqual(words_on(*case, ((0, -1), False, (1, 0), False)), ("other",))
        self.assertEqual(words_on(*case, ((0, -1), False, (1, 0), True)), ("level", "other"))
        # Through (1, 0).
        self.assertEqual(words_on(*case, ((1, -1), True, (1, 1), True)), ("level", "other"))
        self.assertEqual(words_on(WEDGE, EAST, BOX, EAST, ((1, -1), True, (1, 1), True)), ("level",))
        self.assertEqual(words_on(WEDGE, EAST, BOX, EAST, ((1, 1), False, (1, -1), False)), ("other",))
        self.assertEqual(words_on(WEDGE, EAST, BOX, EAST, ((1, 1), True, (1, -1), False)), ("level", "other"))
        self.assertEqual(words_on(WEDGE, EAST, BOX, EAST, ((1, 1), False, (1, -1), True)), ("level", "other"))

    def test_one_wind_all_and_all_but_one(self):
        case = (DIAMOND, EAST, BOX, EAST)
        self.assertEqual(words_on(*case, ALL), ("level", "other"))
        self.assertEqual(words_on(*case, single((1, 0))), ("level",))
        self.assertEqual(words_on(*case, single((3, 1))), ("other",))
        self.assertEqual(words_on(*case, ((1, 0), False, (1, 0), False)), ("level", "other"))
        self.assertEqual(words_on(WEDGE, BENT, NARROW, BENT, ((1, 0), False, (1, 0), False)), ("neither",))
        self.assertEqual(words_on(WEDGE, BENT, NARROW, BENT, single((1, 0))), ("first",))
        self.assertEqual(words_on(WEDGE, BENT, NARROW, BENT, ALL), ("first", "neither"))
        self.assertEqual(words_on(WEDGE, BENT, NARROW, BENT, ((1, 1), False, (1, 1), False)), ("first", "neither"))

    def test_the_order_of_words(self):
        found = words_on(RIGHT, ((2, 0, 1),), ((0, 0, 1), (2, 0, 1), (0, 1, 1)), ((2, 1, 1),), ALL)
        self.assertEqual(found, WORDS)

    def test_random_ones(self):
        rng = random.Random(4)
        seen = {}
        for _ in range(250):
            case = random_case(rng)
            pairs = race(*case)
            ends = sorted(ends_of(pairs) | {(1, 0)}, key=turn_key)
            winds = [rng.choice(ends) if rng.random() < 0.7 else slow_amid(rng.choice(ends), rng.choice(ends))
                     for _ in range(2)]
            if rng.random() < 0.2:
                winds[1] = winds[0]
            flags = [rng.random() < 0.5 for _ in range(2)]
            if winds[0] == winds[1]:
                flags[1] = flags[0]
            arc = (winds[0], flags[0], winds[1], flags[1])
            words = words_on(*case, arc)
            self.assertEqual(words, slow_words_on(case, arc))
            seen[len(words)] = seen.get(len(words), 0) + 1
        self.assertGreater(min(seen.values()), 1)
        self.assertGreaterEqual(set(seen), {1, 2, 3})


NARROW = ((0, 0, 1), (2, -1, 1), (2, 1, 1))
FIGURE_ROW = ("figure", KITE, wrong_given(NOT_FIGURE, InvalidFigure))
COURSE_ROW = ("course", ((1, 0, 1), (2, -1, 3)), wrong_index(WRONG_COURSE, InvalidCourse))
OTHER_ROW = ("other", BOX, wrong_given(NOT_FIGURE, InvalidFigure))
ITS_ROW = ("its_course", ((1, 0, 1),), wrong_index(WRONG_COURSE, InvalidCourse))
ROWS = [FIGURE_ROW, COURSE_ROW, OTHER_ROW, ITS_ROW]


class WrongArguments(unittest.TestCase):
    def test_two_boats_and_courses(self):
        for call in (race, is_never_behind, wind_behind):
            check_arguments(self, call, ROWS)

    def test_winds(self):
        check_arguments(self, word_in, ROWS + [("wind", (2, -1), wrong_given(NOT_DIRECTION, InvalidWind))])

    def test_arcs(self):
        for arc in (((1, 0), True, (0, 1), False), ALL, single((2, -1)), ((2, -1), False, (2, -1), False)):
            check_arguments(self, words_on, ROWS + [("arc", arc, wrong_given(NOT_ARC, InvalidArc))])


if __name__ == "__main__":
    unittest.main()
