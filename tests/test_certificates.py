"""Certificates: the claim of two that is so, with a paper that the checker accepts."""
import random
import unittest

from tests import test_chase, test_firsts, test_races, test_routes, test_sureness
from tests.helpers import (NOT_FIGURE, NOT_POINT, NOT_POLYGON, NOT_TIME, check_arguments, check_raised, wrong_given,
                           wrong_index)
from tests.slow_checker import KINDS, OPPOSITE, random_certificate, slow_accepts
from tests.wrong import BOX, DIAMOND, KITE, WEDGE, WRONG_NOTES, WRONG_SHORES
from windfigure.certificates import (certify_boats, certify_chase, certify_first, certify_known, certify_notes,
                                     certify_race, certify_shores, certify_soonest, certify_sure, certify_way)
from windfigure.checker import accepts
from windfigure.errors import (InIsle, InvalidFigure, InvalidFigures, InvalidIsles, InvalidMover, InvalidNotes,
                               InvalidPoint, InvalidPolygon, InvalidShores, InvalidTime)
from windfigure.figures import is_figure

NOUGHT, ONE = (0, 0, 1), (1, 1)
TERN = ((0, 0, 1), (2, 0, 1), (0, 2, 1))
FAST = ((-2, -2, 1), (2, -2, 1), (2, 2, 1), (-2, 2, 1))
EAST = ((1, 0, 1),)
SKY = (((0, 0), (1, 0)),)
ISLES = (((1, -1, 1), (3, -1, 1), (2, 2, 1)),)
NEAR = 10 ** 20


class Certificates(unittest.TestCase):
    def check(self, word, call, arguments, parts=None):
        """The claim is this word with the arguments, and its paper is accepted; the opposite claim has none."""
        found = call(*arguments)
        self.assertIsInstance(found, tuple)
        claim, paper = found
        self.assertEqual(claim, (word,) + (arguments if parts is None else parts))
        self.assertIs(accepts(claim, paper), True)
        self.assertIs(slow_accepts(claim, paper), True)
        if word in OPPOSITE:
            opposite = (OPPOSITE[word],) + claim[1:]
            self.assertIs(accepts(opposite, paper), False)
            self.assertIs(accepts(opposite, ()), False)
        return paper

    def test_ways(self):
        self.check("in time", certify_way, (TERN, (3, 1, 1), (2, 1)))
        self.assertEqual(self.check("too late", certify_way, (TERN, (3, 1, 1), (1, 1))), (1, 1, 2))
        self.check("too late", certify_way, (TERN, (3, 1, 1), (2 * NEAR - 1, NEAR)))
        self.check("in time", certify_way, (TERN, (3, 1, 1), (2 * NEAR + 1, NEAR)))
        self.assertEqual(self.check("too late", certify_way, (TERN, (-1, 0, 1), (NEAR, 1))), (-1, 0, 0))
        self.assertEqual(self.check("too late", certify_way, (TERN, (1, -1, NEAR), (9, 1))), (0, -1, 0))
        self.assertEqual(self.check("in time", certify_way, (TERN, NOUGHT, (0, 1))), ())
        self.check("too late", certify_way, (TERN, (1, 0, NEAR), (0, 1)))
        self.assertEqual(certify_way(TERN, time=(1, 1), way=(3, 1, 1)), certify_way(TERN, (3, 1, 1), (1, 1)))

    def test_boats(self):
        self.assertEqual(self.check("never later", certify_boats, (KITE, DIAMOND)), ())
        self.assertEqual(self.check("never later", certify_boats, (KITE, KITE)), ())
        self.check("later", certify_boats, (DIAMOND, KITE))
        beyond = ((-1, 0, 1), (0, -1, 1), (NEAR + 1, 0, NEAR), (0, 1, 1))
        self.assertEqual(self.check("later", certify_boats, (DIAMOND, beyond)), (NEAR + 1, 0, NEAR))
        self.check("later", certify_boats, (TERN, WEDGE))

    def test_races(self):
        self.assertEqual(self.check("never behind", certify_race, (BOX, EAST, DIAMOND, EAST)), ())
        self.check("behind", certify_race, (DIAMOND, EAST, BOX, EAST))
        self.check("never behind", certify_race, (WEDGE, EAST, WEDGE, EAST))
        self.check("behind", certify_race, (WEDGE, EAST, BOX, EAST))
        self.check("behind", certify_race, (DIAMOND, ((NEAR + 1, 0, NEAR),), DIAMOND, EAST))
        self.check("never behind", certify_race, (DIAMOND, EAST, DIAMOND, ((NEAR + 1, 0, NEAR),)))

    def test_weathers(self):
        for goal, word in ((((1, 0, 1),), "known"), (((0, 1, 1),), "barred"), (((1, 0, 1), (2, 2, 1)), "known"),
                           (((NEAR + 1, 0, NEAR),), "barred"), (FAST, "known")):
            self.check(word, certify_known, (SKY, (BOX, WEDGE), NOUGHT, goal, 1))
        for place, word in ((NOUGHT, "sure"), ((2, 0, 1), "unsure"), ((0, 1, 1), "sure"), ((-1, 0, NEAR), "unsure")):
            self.check(word, certify_sure, (SKY, (BOX, WEDGE), ((1, 0, 1),), None, 1, place))
        self.check("unsure", certify_sure, (SKY, (BOX, WEDGE), ((1, 0, 1),), ((0, 0, 1),), 2, NOUGHT))

    def test_soonest(self):
        claim, (route, heights) = certify_soonest(DIAMOND, ISLES, NOUGHT, (4, 0, 1))
        self.assertEqual(claim, ("soonest", DIAMOND, ISLES, NOUGHT, (4, 0, 1), (6, 1)))
        self.assertEqual((route, heights), (((0, 0, 1), (1, -1, 1), (3, -1, 1), (4, 0, 1)), ((2, 1), (4, 1), (4, 1))))
        for figure, isles, start, goal, time in (
                (DIAMOND, ISLES, NOUGHT, (4, 0, 1), (6, 1)), (BOX, ISLES, NOUGHT, (4, 0, 1), (4, 1)),
                (TERN, ISLES, (4, 0, 1), NOUGHT, None), (TERN, (), NOUGHT, (1, 1, 1), (1, 1)),
                (TERN, (), NOUGHT, (-1, 0, 1), None), (TERN, (), NOUGHT, NOUGHT, (0, 1)),
                (DIAMOND, ISLES, (1, -1, 1), (1, -1, 1), (0, 1)), (DIAMOND, ISLES, (1, -1, 1), (2, 2, 1), (4, 1))):
            self.check("soonest", certify_soonest, (figure, isles, start, goal), (figure, isles, start, goal, time))
            for other in ((99, 7), None, (1, NEAR)):
                if other != time:
                    paper = certify_soonest(figure, isles, start, goal)[1]
                    self.assertIs(accepts(("soonest", figure, isles, start, goal, other), paper), False)
                    self.assertIs(accepts(("soonest", figure, isles, start, goal, other), (None, paper[1])), False)

    def test_six_isles_with_six_corners(self):
        hexagon = ((0, 1), (1, 0), (2, 0), (3, 1), (2, 2), (1, 2))
        isles = tuple(tuple((x + 4 * k, y + 3 * (k % 2), 1) for x, y in hexagon) for k in range(6))
        self.check("soonest", certify_soonest, (KITE, isles, (-1, 1, 1), (25, 3, 1)), (
            KITE, isles, (-1, 1, 1), (25, 3, 1), certify_soonest(KITE, isles, (-1, 1, 1), (25, 3, 1))[0][5]))

    def test_firsts(self):
        one, two = (DIAMOND, NOUGHT), (BOX, (4, 0, 1))
        self.check("first", certify_first, (one, two, ((0, 0, 1), (2, 0, 1))))
        self.check("not first", certify_first, (one, two, ((0, 0, 1), (2 * NEAR + 1, 0, NEAR))))
        self.check("not first", certify_first, (one, two, FAST))
        self.check("first", certify_first, (one, one, FAST))
        self.check("first", certify_first, ((BOX, NOUGHT), (DIAMOND, NOUGHT), FAST))

    def test_chases(self):
        chaser, fleer = (FAST, (6, 0, 1)), (DIAMOND, NOUGHT)
        self.check("caught", certify_chase, (chaser, fleer, (6, 1)))
        self.assertEqual(self.check("free", certify_chase, (chaser, fleer, (6 * NEAR - 1, NEAR))), (-1, 0, 1))
        self.check("free", certify_chase, (chaser, fleer, (0, 1)))
        self.check("free", certify_chase, (fleer, chaser, (NEAR, 1)))
        self.check("caught", certify_chase, (((NOUGHT,), NOUGHT), fleer, (0, 1)))
        self.check("free", certify_chase, (((NOUGHT,), (0, 1, 1)), (((1, 0, 1), (2, 0, 1)), NOUGHT), (9, 1)))

    def test_notes(self):
        made, barred = ("made", (2, 0, 1), ONE), ("barred", (3, 0, 1), ONE)
        for notes in ((), (made,), (made, barred), (barred,), (made, barred, ("made", (0, 1, 1), (1, 2)))):
            claim, paper = certify_notes(notes)
            self.assertEqual((claim[:2], paper), (("fits", notes), ()))
            self.assertTrue(is_figure(claim[2]))
            self.assertIs(accepts(claim, paper), True)
        for notes, index in (((("barred", NOUGHT, ONE),), (0,)), ((made, ("barred", (2, 0, 1), (2, 1))), (0, 1)),
                             ((barred, made, ("made", (6, 0, 1), ONE)), (0, 2))):
            self.assertEqual(self.check("no figure", certify_notes, (notes,)), index)

    def test_shores(self):
        drifting = ((1, -1, 1), (3, -1, 1), (3, 1, 1), (1, 1, 1))
        one, two = (1, 1, 9), (1, -1, 9)
        self.check("held off", certify_shores, (drifting, (one,)))
        self.check("embayed", certify_shores, (drifting, (one, two)))
        self.check("embayed", certify_shores, (drifting, (one, (1, 0, 5))))
        self.check("held off", certify_shores, (BOX, (one, two, (-1, 0, 9), (0, 1, 9))))
        self.check("held off", certify_shores, ((NOUGHT,), (one, two, (-1, 0, 9))))

    def test_random_ones(self):
        rng = random.Random(7)
        seen = {}
        for _ in range(60):
            for kind in KINDS:
                claim, paper = random_certificate(rng, kind)
                seen[claim[0]] = seen.get(claim[0], 0) + 1
                self.assertIs(accepts(claim, paper), True)
                self.assertIs(slow_accepts(claim, paper), True)
                if claim[0] in OPPOSITE:
                    # Whether the word is right is told by the opposite claim, which is no more so than its paper shows.
                    opposite = (OPPOSITE[claim[0]],) + claim[1:]
                    for other in ((), paper):
                        self.assertIs(accepts(opposite, other), False)
        self.assertEqual(len(seen), 19, seen)
        self.assertGreater(min(seen.values()), 3, seen)


TIME_ROW = ("time", (3, 2), wrong_given(NOT_TIME, InvalidTime))
FIGURE_ROW = ("figure", KITE, wrong_given(NOT_FIGURE, InvalidFigure))
VELOCITIES_ROW = ("velocities", BOX, wrong_given(NOT_POLYGON, InvalidPolygon))


class WrongArguments(unittest.TestCase):
    def test_ways_boats_and_races(self):
        check_arguments(self, certify_way, [FIGURE_ROW, ("way", (1, 2, 3), wrong_given(NOT_POINT, InvalidPoint)), TIME_ROW])
        check_arguments(self, certify_boats, [FIGURE_ROW, ("other",) + FIGURE_ROW[1:]])
        check_arguments(self, certify_race, test_races.ROWS)

    def test_weathers(self):
        rows = test_sureness
        check_arguments(self, certify_sure, [rows.WEATHER, rows.POLYGONS, rows.HARBOUR, rows.WATER, rows.MANY, rows.PLACE])
        check_arguments(self, certify_known, [rows.WEATHER, rows.POLYGONS, rows.PLACE, rows.HARBOUR, rows.MANY])
        check_raised(self, InvalidFigures, "index", 1, certify_known, SKY, (BOX,), None, None, None)

    def test_soonest(self):
        rows = test_routes
        check_arguments(self, certify_soonest, [rows.FIGURE, rows.THE_ISLES, rows.START, rows.GOAL])
        check_raised(self, InIsle, "given", (2, 0, 1), certify_soonest, DIAMOND, ISLES, NOUGHT, (2, 0, 1))
        check_raised(self, InvalidIsles, "index", 1, certify_soonest, DIAMOND, ISLES + (None,), None, None)

    def test_firsts_and_chases(self):
        rows = test_firsts
        check_arguments(self, certify_first, [rows.STARTER_ROW, rows.OTHER_ROW, rows.POLYGON_ROW])
        check_arguments(self, certify_chase, [test_chase.CHASER_ROW, test_chase.FLEER_ROW, TIME_ROW])
        check_raised(self, InvalidMover, "given", None, certify_chase, test_chase.CHASER, None, None)

    def test_notes_and_shores(self):
        check_arguments(self, certify_notes, [("notes", (("made", (1, 2, 3), ONE),), wrong_index(WRONG_NOTES, InvalidNotes))])
        check_arguments(self, certify_shores, [VELOCITIES_ROW, (
            "shores", ((1, 2, 3), (0, 1, 0)), wrong_index(WRONG_SHORES, InvalidShores))])


if __name__ == "__main__":
    unittest.main()
