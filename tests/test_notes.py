"""[50] to [52]: what noted passages tell of an unknown figure."""
import random
import unittest
from fractions import Fraction
from itertools import combinations

from tests.helpers import (NOT_FIGURE, NOT_POINT, check_arguments, check_raised, in_hull, num, pair, pt, random_figure,
                           random_point, slow_hull, slow_time, spot, wrong_given, wrong_index)
from tests.wrong import BOX, DIAMOND, NOT_NOTE, WEDGE, WRONG_NOTES
from windfigure.errors import InvalidFigure, InvalidNote, InvalidNotes, InvalidPoint, NoFigureFits
from windfigure.figures import is_figure
from windfigure.notes import (contradiction, figure_that_fits, fits, kept_notes, least_polygon, least_time,
                              needless_notes, some_figure_fits, status_of, sure_time, tells_all, told_beside,
                              velocity_of)
from windfigure.points import is_time
from windfigure.polygons import is_polygon

NOUGHT = (0, 0, 1)
LOG = (("made", (4, 0, 1), (2, 1)), ("made", (0, 1, 1), (1, 1)), ("made", (1, 0, 1), (1, 1)),
       ("barred", (3, 3, 1), (1, 1)), ("barred", (4, 4, 1), (1, 1)))


def made(x, y):
    return ("made", pt(x, y), (1, 1))


def barred(x, y):
    return ("barred", pt(x, y), (1, 1))


def note_of(rng, word, velocity):
    """A note with this velocity, in any time."""
    time = Fraction(rng.randint(1, 5), rng.choice((1, 2, 3)))
    x, y = velocity
    return (word, pt(x * time, y * time), pair(time))


def slow_velocity(note):
    x, y = spot(note[1])
    return (x / num(note[2]), y / num(note[2]))


def made_spots(notes):
    return [(Fraction(0), Fraction(0))] + [slow_velocity(note) for note in notes if note[0] == "made"]


def barred_spots(notes):
    return [slow_velocity(note) for note in notes if note[0] == "barred"]


def hits(spots, notes):
    """Whether the hull of the spots holds a barred velocity."""
    return any(in_hull(place, spots) for place in barred_spots(notes))


def slow_fitting(notes):
    return not hits(made_spots(notes), notes)


def slow_status(notes, velocity):
    """By words: sure if nothing fits that bars it, never if nothing fits that has it."""
    if not slow_fitting(notes + (barred(*velocity),)):
        return "sure"
    if not slow_fitting(notes + (made(*velocity),)):
        return "never"
    return "open"


def is_always_fitted(notes, note):
    """Whether each figure that fits the notes fits this note: none fits them and the opposite of it."""
    word = "barred" if note[0] == "made" else "made"
    return not slow_fitting(notes + ((word,) + note[1:],))


def random_velocity(rng, size=3):
    return spot(random_point(rng, size, (1, 1, 2)))


def random_notes(rng, most=7):
    """Notes that some figure fits, or that none does; thin least polygons and notes that are told twice among them."""
    line = rng.random() < 0.25
    notes = []
    for _ in range(rng.randint(0, most)):
        x, y = random_velocity(rng)
        if line and rng.random() < 0.7:
            y = x
        if notes and rng.random() < 0.15:
            x, y = slow_velocity(rng.choice(notes))
        if rng.random() < 0.5:
            notes.append(note_of(rng, "made", (x, y)))
        else:
            far = rng.choice((1, 1, 2, 3))
            notes.append(note_of(rng, "barred", (x * far, y * far)))
    return tuple(notes)


def random_fitting(rng, most=7):
    while True:
        notes = random_notes(rng, most)
        if slow_fitting(notes):
            return notes


def some_velocities(rng, notes):
    """Velocities of the notes, between, beyond and beside them."""
    found = [random_velocity(rng, 4) for _ in range(3)] + [slow_velocity(note) for note in notes]
    for one in list(found):
        for _ in range(2):
            (x, y), (u, v) = one, rng.choice(found)
            share = rng.choice((-1, Fraction(1, 2), Fraction(1, 3), 2, Fraction(-1, 9)))
            found.append((x + share * (u - x), y + share * (v - y)))
    return found


class Notes(unittest.TestCase):
    def test_velocities(self):
        self.assertEqual(velocity_of(("made", (4, 0, 1), (2, 1))), (2, 0, 1))
        self.assertEqual(velocity_of(("barred", (1, -2, 3), (4, 3))), (1, -2, 4))
        self.assertEqual(velocity_of(note=("made", NOUGHT, (7, 3))), NOUGHT)
        for value in NOT_NOTE:
            check_raised(self, InvalidNote, "given", value, velocity_of, value)
            check_raised(self, InvalidNote, "given", value, velocity_of, note=value)

    def test_least_polygons(self):
        self.assertEqual(least_polygon(LOG), ((0, 0, 1), (2, 0, 1), (0, 1, 1)))
        self.assertEqual(least_polygon(()), (NOUGHT,))
        self.assertEqual(least_polygon((barred(1, 1), made(0, 0))), (NOUGHT,))
        self.assertEqual(least_polygon((made(1, 1), made(2, 2))), (NOUGHT, (2, 2, 1)))
        self.assertEqual(least_polygon((made(1, 1), made(-2, -2), barred(9, 9))), ((-2, -2, 1), (1, 1, 1)))
        # Nought is inside, on the rim, or beyond what was made.
        self.assertEqual(least_polygon((made(1, 0), made(1, 1), made(2, 0))), (NOUGHT, (2, 0, 1), (1, 1, 1)))

    def test_many(self):
        twelve = LOG + LOG + LOG[:2]
        self.assertIs(some_figure_fits(twelve), True)
        self.assertEqual(least_polygon(twelve), least_polygon(LOG))
        for call in (least_polygon, some_figure_fits, contradiction, needless_notes, kept_notes, figure_that_fits):
            check_raised(self, InvalidNotes, "index", 12, call, twelve + LOG[:1])
            check_raised(self, InvalidNotes, "index", 12, call, twelve + (None,))
            check_raised(self, InvalidNotes, "index", 11, call, twelve[:11] + (None, None))
        self.assertEqual(kept_notes(twelve), (8, 10, 11))


class Fitting(unittest.TestCase):
    def test_figures(self):
        self.assertIs(fits(LOG, ((0, 0, 1), (2, 0, 1), (0, 1, 1))), True)
        self.assertIs(fits(LOG, ((0, 0, 1), (2, 0, 1), (2, 2, 1), (0, 2, 1))), True)
        self.assertIs(fits(LOG, ((0, 0, 1), (3, 0, 1), (3, 3, 1), (0, 3, 1))), False)
        self.assertIs(fits(LOG, WEDGE), False)
        self.assertIs(fits((), DIAMOND), True)
        # On the rim: made there fits, barred there does not.
        self.assertIs(fits((made(1, 0), made(Fraction(1, 2), Fraction(1, 2))), DIAMOND), True)
        self.assertIs(fits((barred(Fraction(1, 2), Fraction(1, 2)),), DIAMOND), False)
        self.assertIs(fits((barred(1, 0),), DIAMOND), False)
        self.assertIs(fits((barred(1 + Fraction(1, 10 ** 20), 0),), DIAMOND), True)
        self.assertIs(fits((made(1 + Fraction(1, 10 ** 20), 0),), DIAMOND), False)

    def test_barred_on_the_rim_at_a_corner_inside_and_outside(self):
        triangle = (made(2, 0), made(0, 2))
        for velocity, can in (((1, 1), False), ((2, 0), False), ((0, 0), False), ((1, 0), False), ((0, 2), False),
                              ((Fraction(1, 2), Fraction(1, 2)), False), ((3, 0), True), ((2, 1), True), ((-1, 0), True),
                              ((1 + Fraction(1, 10 ** 20), 1), True)):
            notes = triangle + (barred(*velocity),)
            self.assertIs(some_figure_fits(notes), can)
            self.assertIs(contradiction(notes) is None, can)
        for notes in ((barred(0, 0),), (made(1, 1), barred(1, 1)), (made(2, 2), barred(1, 1))):
            self.assertIs(some_figure_fits(notes), False)
        for notes in ((), (barred(1, 1),), (made(1, 1), barred(2, 2)), (made(1, 1), barred(-1, -1)), (made(0, 0),)):
            self.assertIs(some_figure_fits(notes), True)

    def test_figures_that_fit(self):
        self.assertEqual(figure_that_fits(LOG), least_polygon(LOG))
        near = Fraction(1, 10 ** 20)
        for notes in ((), (made(0, 0),), (made(1, 0),), (barred(near, 0), barred(0, near)), (made(1, 1), made(2, 2)),
                      (made(-1, 2), made(1, -2), barred(near, near), barred(-near, -near)),
                      (made(1, 0), barred(1 + near, 0), barred(-near, 0), barred(0, near), barred(0, -near)),
                      (made(1, 0), barred(Fraction(1, 2), near), barred(Fraction(1, 2), -near)),
                      (barred(1, 0), barred(-1, 0), barred(0, 1), barred(0, -1), barred(near, near)),
                      (made(3, -2), made(-3, 2), barred(Fraction(3, 2), -1 + near), barred(-3, 2 + near))):
            found = figure_that_fits(notes)
            self.assertTrue(is_figure(found))
            self.assertIs(fits(notes, found), True)

    def test_random_ones(self):
        rng = random.Random(1)
        seen = {True: 0, False: 0}
        for _ in range(300):
            notes = random_notes(rng)
            can = slow_fitting(notes)
            seen[can] += 1
            self.assertIs(some_figure_fits(notes), can)
            self.assertEqual(least_polygon(notes), slow_hull([pt(*place) for place in made_spots(notes)]))
            self.assertTrue(is_polygon(least_polygon(notes)))
            figure = random_figure(rng)
            spots = [spot(corner) for corner in figure]
            self.assertIs(fits(notes, figure), all(in_hull(slow_velocity(note), spots) == (note[0] == "made")
                                                   for note in notes))
            if can:
                found = figure_that_fits(notes)
                self.assertTrue(is_figure(found))
                spots = [spot(corner) for corner in found]
                self.assertTrue(all(in_hull(place, spots) for place in made_spots(notes)))
                self.assertFalse(hits(spots, notes))
            else:
                check_none_fits(self, notes)
        self.assertGreater(min(seen.values()), 50, seen)


def check_none_fits(test, notes):
    point, figure = (1, 2, 3), DIAMOND
    for call, more in ((status_of, (point,)), (sure_time, (point,)), (least_time, (point,)), (needless_notes, ()),
                       (kept_notes, ()), (tells_all, (notes,)), (tells_all, ((),)), (told_beside, (figure,)),
                       (figure_that_fits, ()), (sure_time, (NOUGHT,)), (least_time, (NOUGHT,))):
        with test.assertRaises(NoFigureFits) as caught:
            call(notes, *more)
        test.assertIs(type(caught.exception), NoFigureFits)
        test.assertEqual(vars(caught.exception), {})


class Contradictions(unittest.TestCase):
    def test_one_to_four(self):
        self.assertEqual(contradiction((("made", (2, 0, 1), (1, 1)), ("made", (0, 2, 1), (1, 1)),
                                        ("made", (3, 0, 1), (1, 1)), ("barred", (1, 1, 2), (1, 1)))), (0, 1, 3))
        self.assertIsNone(contradiction(()))
        self.assertIsNone(contradiction(LOG))
        self.assertEqual(contradiction(LOG + (barred(0, 0),)), (5,))
        self.assertEqual(contradiction((barred(0, 0), made(1, 1), barred(1, 1))), (0,))
        self.assertEqual(contradiction((made(5, 5), made(2, 2), barred(1, 1), made(1, 1))), (0, 2))
        self.assertEqual(contradiction((barred(1, 1), made(2, 0), made(0, 2), made(2, 2))), (0, 3))
        self.assertEqual(contradiction((made(3, 1), made(2, 0), made(0, 2), made(1, 3), barred(1, 1))), (0, 2, 4))
        # The first ones that hold it, with nought for the third corner of a triangle.
        self.assertEqual(contradiction((made(9, 9), made(4, 0), made(0, 4), barred(2, 3), made(7, 4))), (0, 2, 3))
        self.assertEqual(contradiction((made(4, 1), made(1, 4), made(4, 4), barred(3, 3))), (2, 3))
        self.assertEqual(contradiction((made(2, -1), made(3, 4), made(-1, 1), barred(1, 1))), (0, 1, 3))
        self.assertEqual(contradiction((made(6, -1), made(-1, 6), made(6, 6), made(-6, -6), barred(3, 2))), (0, 1, 4))
        self.assertEqual(contradiction((barred(4, 4), made(1, 9), made(10, 2), made(9, 1), barred(4, 4))), (0, 1, 2))

    def test_random_ones(self):
        # Four are never needed: two made ones and nought hold each point of the least polygon.
        rng = random.Random(2)
        seen = {1: 0, 2: 0, 3: 0, None: 0}
        for _ in range(800):
            notes = tuple(note_of(rng, "made" if rng.random() < 0.8 else "barred", random_velocity(rng, 4))
                          for _ in range(rng.randint(3, 7)))
            if rng.random() < 0.1:
                notes += (note_of(rng, "barred", (0, 0)),)
            slow = self.slow_contradiction(notes)
            seen[slow and len(slow)] += 1
            self.assertEqual(contradiction(notes), slow)
        self.assertGreater(min(seen.values()), 20, seen)

    def slow_contradiction(self, notes):
        for many in range(len(notes) + 1):
            for chosen in combinations(range(len(notes)), many):
                if not slow_fitting(tuple(notes[index] for index in chosen)):
                    return chosen
        return None


class Statuses(unittest.TestCase):
    def test_examples(self):
        self.assertEqual([status_of(LOG, velocity) for velocity in ((1, 0, 1), (2, 1, 1), (6, 6, 1))],
                         ["sure", "open", "never"])

    def test_on_the_rims_between(self):
        near = Fraction(1, 10 ** 20)
        notes = (made(2, 0), made(0, 2), barred(3, 3))
        for x, y, word in ((1, 1, "sure"), (1 + near, 1, "open"), (2, 0, "sure"), (2 + near, 0, "open"), (0, 0, "sure"),
                           (-near, 0, "open"), (3, 3, "never"), (3 - near, 3 - near, "open"), (4, 6, "never"),
                           (4 - near, 6, "open"), (6, 4, "never"), (6, 4 - near, "open"), (5, 5, "never"),
                           (100, 0, "open")):
            self.assertEqual(status_of(notes, pt(x, y)), word)
        # Without an area: along the line, and beside it.
        notes = (made(1, 0), barred(3, 0))
        for x, y, word in ((1, 0, "sure"), (1 + near, 0, "open"), (3, 0, "never"), (3 - near, 0, "open"),
                           (3, near, "open"), (9, 0, "never"), (9, near, "open"), (-5, 0, "open"), (-near, 0, "open")):
            self.assertEqual(status_of(notes, pt(x, y)), word)
        for x, y, word in ((0, 0, "sure"), (1, 2, "never"), (2, 4, "never"), (2, 3, "open"), (1, 2 - near, "open")):
            self.assertEqual(status_of((barred(1, 2),), pt(x, y)), word)
        self.assertEqual(status_of((), (1, 0, 1)), "open")
        self.assertEqual(status_of((), NOUGHT), "sure")

    def test_random_ones(self):
        rng = random.Random(3)
        seen = {"sure": 0, "open": 0, "never": 0}
        for _ in range(150):
            notes = random_fitting(rng)
            for velocity in some_velocities(rng, notes):
                word = status_of(notes, pt(*velocity))
                self.assertEqual(word, slow_status(notes, velocity))
                seen[word] += 1
                # Figures that fit and have it, or have it not, as the word lets.
                if word != "never" and len(notes) < 12:
                    self.assertIs(fits(notes, figure_that_fits(notes + (made(*velocity),))), True)
                if word != "sure" and len(notes) < 12:
                    self.assertIs(fits(notes, figure_that_fits(notes + (barred(*velocity),))), True)
        self.assertGreater(min(seen.values()), 200, seen)


class Times(unittest.TestCase):
    def test_examples(self):
        self.assertEqual(sure_time(LOG, (2, 1, 1)), (2, 1))
        self.assertIsNone(sure_time(LOG, (-1, 0, 1)))
        self.assertEqual(least_time(LOG, (1, 1, 1)), (1, 3))
        self.assertEqual(least_time(LOG, (1, 0, 1)), (0, 1))

    def test_nought_and_thin_polygons(self):
        for notes in ((), LOG, (made(1, 0),), (barred(1, 1),)):
            self.assertEqual(sure_time(notes, NOUGHT), (0, 1))
            self.assertEqual(least_time(notes, NOUGHT), (0, 1))
        self.assertIsNone(sure_time((), (1, 0, 1)))
        self.assertEqual(least_time((), (1, 0, 1)), (0, 1))
        notes = (made(2, 0), barred(3, 0), barred(-1, 0), barred(0, 5))
        self.assertEqual(sure_time(notes, (3, 0, 1)), (3, 2))
        self.assertEqual(least_time(notes, (3, 0, 1)), (1, 1))
        self.assertIsNone(sure_time(notes, (-3, 0, 1)))
        self.assertEqual(least_time(notes, (-3, 0, 1)), (3, 1))
        self.assertIsNone(sure_time(notes, (3, 1, 10 ** 20)))
        self.assertEqual(least_time(notes, (0, 10, 1)), (2, 1))
        # To the side that lies behind the barred one as it is seen from (2, 0), and just beside.
        self.assertEqual(least_time(notes, (-2, 5, 1)), (0, 1))
        self.assertEqual(least_time(notes, (-2, 6, 1)), (1, 5))
        self.assertEqual(least_time(notes, (1, 5, 1)), (0, 1))

    def test_several_barred_ones_the_longest_time(self):
        notes = (made(1, 0), made(0, 1), made(-1, 0), made(0, -1), barred(4, 0), barred(2, 0), barred(3, 0))
        self.assertEqual(least_time(notes, (6, 0, 1)), (3, 1))
        self.assertEqual(sure_time(notes, (6, 0, 1)), (6, 1))
        self.assertEqual(least_time(notes, (6, 1, 1)), (2, 1))
        self.assertEqual(least_time(notes, (6, 2, 1)), (1, 1))
        # Along the rim of what is never, and farther off.
        self.assertEqual(least_time(notes, (6, 3, 1)), (0, 1))
        self.assertEqual(least_time(notes, (6, 6, 1)), (0, 1))
        self.assertEqual(least_time((made(1, 0), made(0, 1), barred(1, 1)), (1, 0, 1)), (0, 1))
        self.assertEqual(least_time((made(1, 0), made(0, 1), barred(1, 1)), (10 ** 20, 1, 1)), (1, 1))

    def test_random_ones(self):
        rng = random.Random(4)
        seen = {"never": 0, "always": 0, "sure": 0, "not sure": 0}
        near = Fraction(1, 10 ** 9)
        for _ in range(200):
            notes = random_fitting(rng)
            for _ in range(4):
                x, y = way = rng.choice(some_velocities(rng, notes))
                if way == (0, 0):
                    continue
                least, sure = least_time(notes, pt(*way)), sure_time(notes, pt(*way))
                self.assertTrue(is_time(least) and (sure is None or is_time(sure)))
                hull = slow_hull([pt(*place) for place in made_spots(notes)])
                if len(hull) > 2:
                    slow = slow_time(hull, pt(*way))
                    self.assertEqual(sure, None if slow is None else pair(slow))
                seen["sure" if sure else "not sure"] += 1
                seen["never" if num(least) else "always"] += 1
                words = {}
                for time in self.some_times(num(least), None if sure is None else num(sure), near):
                    words[time] = slow_status(notes, (x / time, y / time))
                for time, word in words.items():
                    if time <= num(least):
                        self.assertEqual(word, "never")
                    elif sure is not None and time >= num(sure):
                        self.assertEqual(word, "sure")
                    else:
                        self.assertEqual(word, "open")
        self.assertGreater(min(seen.values()), 50, seen)

    def some_times(self, least, sure, near):
        found = [least, least / 2, least + near, least * 2, near, Fraction(10 ** 9)]
        if sure is not None:
            found += [sure, sure - near, sure + near, (least + sure) / 2]
        return [time for time in found if time > 0]


class Needless(unittest.TestCase):
    def test_examples(self):
        self.assertEqual(needless_notes(LOG), (2, 4))
        self.assertEqual(kept_notes(LOG), (0, 1, 3))

    def test_twice_told(self):
        # Each is needless beside the other one; one after another only the last one stays.
        self.assertEqual(needless_notes((made(1, 0), made(1, 0))), (0, 1))
        self.assertEqual(kept_notes((made(1, 0), made(1, 0))), (1,))
        self.assertEqual(needless_notes((barred(1, 0), ("barred", (2, 0, 1), (2, 1)))), (0, 1))
        self.assertEqual(kept_notes((barred(1, 0), ("barred", (2, 0, 1), (2, 1)))), (1,))
        self.assertEqual(needless_notes(()), ())
        self.assertEqual(kept_notes(()), ())
        self.assertEqual(needless_notes((made(0, 0),)), (0,))
        self.assertEqual(kept_notes((made(0, 0),)), ())
        # Behind one another, in either order, and as seen from the whole least polygon.
        self.assertEqual(needless_notes((barred(2, 2), barred(1, 1))), (0,))
        self.assertEqual(kept_notes((barred(1, 1), barred(2, 2), barred(3, 3))), (0,))
        self.assertEqual(kept_notes((barred(3, 3), barred(2, 2), barred(1, 1))), (2,))
        self.assertEqual(needless_notes((barred(2, 0), barred(4, 1), made(0, -1))), (1,))
        self.assertEqual(kept_notes((barred(2, 0), barred(4, 1), made(0, -1))), (0, 2))
        self.assertEqual(needless_notes((barred(2, 0), barred(4, 1))), ())

    def test_tells(self):
        self.assertIs(tells_all(LOG, LOG), True)
        self.assertIs(tells_all(LOG, ()), True)
        self.assertIs(tells_all((), LOG), False)
        self.assertIs(tells_all((), (made(0, 0),)), True)
        self.assertIs(tells_all(LOG, (made(1, Fraction(1, 2)), barred(5, 5), barred(4, 3))), False)
        self.assertIs(tells_all(LOG, (made(1, Fraction(1, 2)), barred(5, 5))), True)
        self.assertIs(tells_all(LOG, (made(1, 1),)), False)
        # Others that contradict themselves are told by no notes that some figure fits.
        self.assertIs(tells_all(LOG, (barred(0, 0),)), False)
        self.assertIs(tells_all(LOG, (made(6, 6),)), False)

    def test_random_ones(self):
        rng = random.Random(5)
        seen = {"needless": 0, "told": 0, "not told": 0, "more": 0}
        for _ in range(150):
            notes = random_fitting(rng, 6)
            needless = tuple(k for k in range(len(notes)) if is_always_fitted(notes[:k] + notes[k + 1:], notes[k]))
            self.assertEqual(needless_notes(notes), needless)
            seen["needless"] += needless != ()
            kept = list(range(len(notes)))
            for k in range(len(notes)):
                rest = tuple(notes[other] for other in kept if other != k)
                if is_always_fitted(rest, notes[k]):
                    kept.remove(k)
            self.assertEqual(kept_notes(notes), tuple(kept))
            seen["more"] += len(kept) + len(needless) > len(notes)
            # As few as any choice: no fewer notes tell all of them.
            for many in range(len(kept)):
                for chosen in combinations(notes, many):
                    self.assertFalse(all(is_always_fitted(chosen, note) for note in notes))
            others = random_notes(rng, 3)
            told = all(is_always_fitted(notes, note) for note in others)
            self.assertIs(tells_all(notes, others), told)
            seen["told" if told else "not told"] += 1
        self.assertGreater(min(seen.values()), 10, seen)


class Figures(unittest.TestCase):
    def test_words(self):
        self.assertEqual(told_beside(LOG, ((0, 0, 1), (1, 0, 1), (0, 1, 1))), "sure")
        self.assertEqual(told_beside(LOG, ((0, 0, 1), (2, 0, 1), (0, 1, 1))), "sure")
        self.assertEqual(told_beside(LOG, ((0, 0, 1), (9, 0, 1), (0, 9, 1))), "never")
        self.assertEqual(told_beside(LOG, BOX), "open")
        # The figure itself holds no barred velocity, but its hull with the least polygon does.
        notes = (made(4, 0), barred(2, 1))
        self.assertEqual(told_beside(notes, ((-1, 0, 1), (0, 0, 1), (0, 2, 1))), "never")
        self.assertEqual(told_beside(notes, ((-1, 0, 1), (0, 0, 1), (0, 1, 1))), "open")
        self.assertEqual(told_beside((made(4, 0),), ((-1, 0, 1), (0, 0, 1), (0, 2, 1))), "open")
        self.assertEqual(told_beside((), BOX), "open")
        self.assertEqual(told_beside((barred(1, 1),), BOX), "never")
        self.assertEqual(told_beside((barred(1, 1),), DIAMOND), "open")

    def test_random_ones(self):
        rng = random.Random(6)
        seen = {"sure": 0, "open": 0, "never": 0}
        for _ in range(300):
            notes, figure = random_fitting(rng), random_figure(rng, rng.choice((1, 2, 4)))
            least = slow_hull([pt(*place) for place in made_spots(notes)])
            if len(least) > 2 and rng.random() < 0.5:
                share = rng.choice((1, Fraction(1, 2), Fraction(7, 6)))
                figure = slow_hull([pt(share * x, share * y) for x, y in map(spot, least)])
            word = told_beside(notes, figure)
            seen[word] += 1
            corners = [spot(corner) for corner in figure]
            if word == "sure":
                self.assertTrue(all(slow_status(notes, corner) == "sure" for corner in corners))
            elif word == "never":
                self.assertTrue(hits(made_spots(notes) + corners, notes))
            else:
                self.assertFalse(hits(made_spots(notes) + corners, notes))
                self.assertIn("open", [slow_status(notes, corner) for corner in corners])
        self.assertGreater(min(seen.values()), 25, seen)


NOTES_ROW = ("notes", LOG, wrong_index(WRONG_NOTES, InvalidNotes))
WAY_ROW = ("way", (1, 2, 3), wrong_given(NOT_POINT, InvalidPoint))
FIGURE_ROW = ("figure", DIAMOND, wrong_given(NOT_FIGURE, InvalidFigure))


class WrongArguments(unittest.TestCase):
    def test_notes(self):
        for call in (least_polygon, some_figure_fits, contradiction, needless_notes, kept_notes, figure_that_fits):
            check_arguments(self, call, [NOTES_ROW])

    def test_more(self):
        for call in (sure_time, least_time):
            check_arguments(self, call, [NOTES_ROW, WAY_ROW])
        check_arguments(self, status_of, [NOTES_ROW, ("velocity",) + WAY_ROW[1:]])
        check_arguments(self, tells_all, [NOTES_ROW, ("others",) + NOTES_ROW[1:]])
        for call in (fits, told_beside):
            check_arguments(self, call, [NOTES_ROW, FIGURE_ROW])

    def test_no_figure_fits_comes_last(self):
        odd = (barred(0, 0),)
        for call in (status_of, sure_time, least_time):
            check_raised(self, InvalidPoint, "given", None, call, odd, None)
        check_raised(self, InvalidNotes, "index", 1, tells_all, odd, (made(1, 1), None))
        check_raised(self, InvalidFigure, "given", None, told_beside, odd, None)
        check_raised(self, InvalidNotes, "index", 1, needless_notes, odd + (None,))
        check_none_fits(self, odd)
        self.assertIs(fits(odd, BOX), False)


if __name__ == "__main__":
    unittest.main()
