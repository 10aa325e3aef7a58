"""[55]: claims for the checker, and the papers that it accepts."""
import random
import unittest

from tests.helpers import ANY, Odd, deep
from tests.slow_checker import KINDS, OPPOSITE, PARTS, bent, random_certificate, slow_accepts
from tests.wrong import BEAM, BOX, DIAMOND, KITE, WEDGE
from windfigure.checker import accepts

NOUGHT, ONE = (0, 0, 1), (1, 1)
TERN = ((0, 0, 1), (2, 0, 1), (0, 2, 1))
FAST = ((-2, -2, 1), (2, -2, 1), (2, 2, 1), (-2, 2, 1))
EAST = ((1, 0, 1),)
SKY = (((0, 0), (1, 0)),)
GOAL, NORTH_GOAL = ((1, 0, 1),), ((0, 1, 1),)
ISLES = (((1, -1, 1), (3, -1, 1), (2, 2, 1)),)
ROUTE = ((0, 0, 1), (1, -1, 1), (3, -1, 1), (4, 0, 1))
HEIGHTS = ((2, 1), (4, 1), (4, 1))
NEAR = 10 ** 20
STILL = ((0, 0, 1),)


def made(x, y):
    return ("made", (x, y, 1), ONE)


def barred(x, y):
    return ("barred", (x, y, 1), ONE)


class Papers(unittest.TestCase):
    def check(self, claim, good, bad):
        for paper in good:
            self.assertIs(accepts(claim, paper), True, (claim, paper))
            self.assertIs(accepts(claim=claim, paper=paper), True)
            self.assertIs(slow_accepts(claim, paper), True)
        for paper in bad:
            self.assertIs(accepts(claim, paper), False, (claim, paper))
        for paper in ANY:
            if not (isinstance(paper, tuple) and paper == ()):
                self.assertIs(accepts(claim, paper), False, paper)
        if () not in good:
            self.assertIs(accepts(claim, ()), False)
        # The same with an element too many, with one too few, or in a list.
        for paper in good:
            for other in (claim + (NOUGHT,), claim[:-1], list(claim), claim[1:], (claim,)):
                self.assertIs(accepts(other, paper), False)

    def test_in_time(self):
        claim = ("in time", KITE, (-2, 2, 1), (4, 1))
        tacks = (((1, 2, 1), (1, 1)), ((-1, 0, 1), (3, 1)))
        self.check(claim, [tacks, tacks[::-1], (((-1, 1, 2), (4, 1)),), tacks[:1] + (tacks[1][:1] + ((1, 1),),) * 3], [
            tacks[:1], tacks + tacks, tacks + ((NOUGHT, (1, 1)),), list(tacks), tacks + (((1, 0, 1), (1, 1)),),
            (((-2, 2, 1), (1, 1)),), (((1, 2, 1), (1, 1)), ((-3, 0, 1), (1, 1))), (((-1, 1, 2), [4, 1]),),
            (((-1, 1, 2), (4, 1)), ((1, 0, 1), (0, 1)))])
        longer = ("in time", KITE, (-2, 2, 1), (5, 1))
        self.check(longer, [tacks, tacks + ((NOUGHT, (1, 1)),), ((NOUGHT, (1, 2)),) * 2 + tacks],
                   [tacks + ((NOUGHT, (NEAR + 1, NEAR)),)])
        self.check(("in time", KITE, (-2, 2, 1), (4 * NEAR - 1, NEAR)), [], [tacks])
        self.check(("in time", KITE, NOUGHT, (0, 1)), [()], [((NOUGHT, (0, 1)),), ((NOUGHT, (1, NEAR)),)])
        self.check(("in time", KITE, NOUGHT, (9, 1)), [()], [
            (((1, 2, 1), (2, 1)),)])
        self.check(("in time", TERN, (-1, 0, 1), (9, 1)), [], [(((-1, 0, 1), (1, 1)),)])

    def test_too_late(self):
        claim = ("too late", TERN, (3, 1, 1), (1, 1))
        self.check(claim, [(1, 1, 2)], [(1, 1, 1), (0, -1, 0), (-1, 0, 0), (2, 2, 4), [1, 1, 2], (1, 1, True), (1, 1, 4),
                                        (1, 0, 2), (((1, 1, 2),),)])
        self.check(("too late", TERN, (3, 1, 1), (2, 1)), [], [(1, 1, 2)])
        self.check(("too late", TERN, (3, 1, 1), (2 * NEAR - 1, NEAR)), [(1, 1, 2)], [(0, -1, 0)])
        # What can never be made is too late by a side through nought alone, however long the time is.
        claim = ("too late", TERN, (-1, 0, 1), (NEAR, 1))
        self.check(claim, [(-1, 0, 0)], [(0, -1, 0), (1, 1, 2), (-1, 0, 1), (-1, -1, 0)])
        self.check(("too late", KITE, (6, 0, 1), (1, 1)), [(1, -1, 3), (1, 1, 3)], [(-1, -1, 1), (1, 0, 3)])
        self.check(("too late", KITE, NOUGHT, (0, 1)), [], [(1, -1, 3)])
        self.check(("too late", KITE, (1, 0, NEAR), (0, 1)), [(1, -1, 3), (1, 1, 3)], [(-1, 1, 1)])

    def test_boats(self):
        self.check(("never later", KITE, DIAMOND), [()], [(0, 2, 1), NOUGHT, ((),)])
        self.check(("never later", KITE, KITE), [()], [])
        self.check(("never later", DIAMOND, KITE), [], [()])
        self.check(("later", DIAMOND, KITE), [(1, -2, 1), (3, 0, 1), (6, 0, 5), (1, 2, 7)], [
            (0, 1, 1), (-1, 0, 1), NOUGHT, (-5, 0, 2), ((3, 0, 1),), [3, 0, 1], (3, 0, True), (6, 0, 2)])
        self.check(("later", TERN, DIAMOND), [(-1, 0, 1), (0, -3, 1)], [(1, 0, 1), (1, 1, 1)])
        self.check(("later", KITE, DIAMOND), [], [(3, 0, 1), (-1, 0, 1)])
        self.check(("later", TERN, TERN), [], [(-1, 0, 1), (1, 0, 1)])

    def test_races(self):
        self.check(("never behind", BOX, EAST, DIAMOND, EAST), [()], [(1, 0)])
        self.check(("never behind", DIAMOND, EAST, BOX, EAST), [], [()])
        self.check(("behind", DIAMOND, EAST, BOX, EAST), [(1, 1), (2, 1), (-1, 5)], [
            (1, 0), (0, 1), (2, 2), (0, 0), (1, 1, 1), [1, 1], (1, True), NOUGHT])
        self.check(("behind", BOX, EAST, DIAMOND, EAST), [], [(1, 1), (1, 0)])
        self.check(("behind", WEDGE, EAST, BOX, EAST), [(0, 1), (-1, 0), (NEAR - 1, NEAR)], [(1, 1), (1, 0), (1, -1)])
        self.check(("never behind", WEDGE, EAST, WEDGE, EAST), [()], [])
        self.check(("behind", WEDGE, EAST, WEDGE, EAST), [], [(1, 0), (-1, 0)])

    def test_weathers(self):
        self.check(("known", SKY, (BOX, WEDGE), NOUGHT, GOAL, 1), [()], [((1,), (1, 0, 0))])
        self.check(("known", SKY, (BOX, WEDGE), NOUGHT, NORTH_GOAL, 1), [], [()])
        claim = ("barred", SKY, (BOX, WEDGE), NOUGHT, NORTH_GOAL, 1)
        # Any side that parts them, and any word that it does so for.
        self.check(claim, [((1,), (-1, 1, 0)), ((1,), (-2, 3, 1)), ((1,), (-4, 5, 2))], [
            ((1,), (-1, 1, 1)), ((1,), (-1, 1, -1)), ((0,), (-1, 1, 0)), ((1, 1), (-1, 1, 0)), ((), (-1, 1, 0)),
            ((2,), (-1, 1, 0)), ((True,), (-1, 1, 0)), ([1], (-1, 1, 0)), ((1,), [-1, 1, 0]), ((1,), (-2, 2, 0)),
            ((1,), (1, -1, 0)), ((1,), (0, 1, 0)), [(1,), (-1, 1, 0)], ((-1, 1, 0), (1,)), ((1,), (-1, 1, 0), ()),
            ((1,),), (1, (-1, 1, 0)), (("1",), (-1, 1, 0)), ((1,), (-1, 1, False)), ((Odd(),), (-1, 1, 0))])
        self.check(("barred", SKY, (BOX, WEDGE), NOUGHT, GOAL, 1), [], [((1,), (-1, 1, 0)), ((0,), (1, 0, 0))])
        claim = ("sure", SKY, (BOX, WEDGE), GOAL, None, 1, NOUGHT)
        self.check(claim, [()], [NOUGHT, ((),)])
        self.check(("un" + claim[0],) + claim[1:], [], [()])
        claim = ("unsure", SKY, (BOX, WEDGE), GOAL, None, 1, (2, 0, 1))
        self.check(claim, [()], [(2, 0, 1)])
        self.check(("sure",) + claim[1:], [], [()])
        self.check(("sure", SKY, (BOX, WEDGE), GOAL, FAST, 1, NOUGHT), [()], [])
        self.check(("unsure", SKY, (BOX, WEDGE), GOAL, STILL, 1, NOUGHT), [()], [])

    def test_soonest(self):
        claim = ("soonest", DIAMOND, ISLES, NOUGHT, (4, 0, 1), (6, 1))
        good = [(ROUTE, HEIGHTS), (ROUTE[:1] + ROUTE, HEIGHTS), (ROUTE[:2] + ((2, -1, 1),) + ROUTE[2:], HEIGHTS),
                (ROUTE, ((2, 1), (4, 1), (2, 1))), (ROUTE[:2] + ((1, -1, 1),) * 36 + ROUTE[2:], HEIGHTS)]
        longer = ((0, 0, 1), (2, 2, 1), (4, 0, 1))
        # Routes that take six hours, too, but have another end or both other ends.
        self.check(claim, good[:1], [(route, HEIGHTS) for route in (
            ((0, 0, 1), (-6, 0, 1)), ((10, 0, 1), (4, 0, 1)), ((0, 9, 1), (6, 9, 1)), ROUTE[::-1])])
        self.check(claim, good, [
            (ROUTE, HEIGHTS[:2]), (ROUTE, HEIGHTS + ((9, 1),)), (ROUTE, ((2, 1), (5, 1), (4, 1))),
            (ROUTE, ((0, 1), (2, 1), (1, 1))), (ROUTE, (None, None, None)), (ROUTE, None), (ROUTE, list(HEIGHTS)),
            (None, HEIGHTS), (longer, HEIGHTS), (ROUTE[::-1], HEIGHTS), (ROUTE[1:], HEIGHTS), (ROUTE[:-1], HEIGHTS),
            (ROUTE[:1] + ROUTE[-1:], HEIGHTS), (HEIGHTS, ROUTE), (list(ROUTE), HEIGHTS), [ROUTE, HEIGHTS], (ROUTE,),
            (ROUTE, HEIGHTS, ()), ((), HEIGHTS), (ROUTE[:2] + ((1, -1, 1),) * 37 + ROUTE[2:], HEIGHTS),
            (ROUTE, ((2, 1), (4, 1), (-1, 1))), (ROUTE, ((2, 1), (4, 1), 4)), (ROUTE[:2] + (None,) + ROUTE[2:], HEIGHTS)])
        self.check(("soonest", DIAMOND, ISLES, NOUGHT, (4, 0, 1), (8, 1)), [], [(longer, HEIGHTS), (ROUTE, HEIGHTS)])
        self.check(("soonest", DIAMOND, ISLES, NOUGHT, (4, 0, 1), (5, 1)), [], [
            (ROUTE, HEIGHTS), (ROUTE, ((2, 1), (3, 1), (3, 1)))])
        self.check(("soonest", DIAMOND, ISLES, NOUGHT, (4, 0, 1), None), [], [(ROUTE, HEIGHTS), (None, HEIGHTS),
                                                                           (None, (None, None, None))])
        # Endless: the heights are endless, too, wherever a boat that comes there could go on.
        self.check(("soonest", TERN, ISLES, (4, 0, 1), NOUGHT, None), [(None, (None, None, None))], [
            (((4, 0, 1), NOUGHT), (None, None, None)), (None, ()), (None, None), (None, (None, None, (7, 1), None))])
        self.check(("soonest", TERN, (), NOUGHT, (1, 1, 1), (1, 1)), [((NOUGHT, (1, 1, 1)), ())], [
            ((NOUGHT, (1, 1, 1)), None), ((NOUGHT, (1, 1, 1)), ((0, 1),)), ((NOUGHT, (1, 1, 1), NOUGHT), ())])
        self.check(("soonest", TERN, (), NOUGHT, (-1, 0, 1), None), [(None, ())], [((), ()), (NOUGHT, ())])
        self.check(("soonest", TERN, (), NOUGHT, NOUGHT, (0, 1)), [((NOUGHT,), ()), ((NOUGHT,) * 40, ())], [
            ((NOUGHT,) * 41, ()), ((), ()), (None, ())])
        # A start or a goal inside an isle is none.
        for start, goal in (((2, 0, 1), (4, 0, 1)), ((4, 0, 1), (2, 0, 1))):
            self.check(("soonest", DIAMOND, ISLES, start, goal, (2, 1)), [], [((start, goal), HEIGHTS)])
            self.check(("soonest", DIAMOND, ISLES, start, goal, None), [], [(None, (None, None, None)), (None, HEIGHTS)])

    def test_firsts(self):
        one, two = (DIAMOND, NOUGHT), (BOX, (4, 0, 1))
        field = ((0, 0, 1), (2, 0, 1), (2, 2, 1), (0, 2, 1))
        self.check(("first", one, two, ((0, 0, 1), (2, 0, 1))), [()], [(0, 0, 1)])
        self.check(("first", one, two, ((0, 0, 1), (2 * NEAR + 1, 0, NEAR))), [], [()])
        self.check(("first", one, two, field), [], [()])
        self.check(("not first", one, two, field), [(2, 2, 1), (2, 1, 1), (3, 4, 2)], [
            (0, 0, 1), (2, 0, 1), (3, 2, 1), (9, 9, 1), [2, 2, 1], (2, 2, True), ((2, 2, 1),)])
        self.check(("not first", one, two, ((0, 0, 1), (2, 0, 1))), [], [(2, 0, 1), (3, 0, 1)])
        self.check(("first", one, one, field), [()], [])
        self.check(("not first", one, one, field), [], [(1, 1, 1)])

    def test_chases(self):
        chaser, fleer = (FAST, (6, 0, 1)), (DIAMOND, NOUGHT)
        self.check(("caught", chaser, fleer, (6, 1)), [()], [(-1, 0, 1)])
        self.check(("caught", chaser, fleer, (6 * NEAR - 1, NEAR)), [], [()])
        self.check(("free", chaser, fleer, (6, 1)), [], [(-1, 0, 1), NOUGHT])
        self.check(("free", chaser, fleer, (6 * NEAR - 1, NEAR)), [(-1, 0, 1)], [NOUGHT, (0, 1, 1), (-2, 0, 1), [-1, 0, 1]])
        self.check(("free", chaser, fleer, (5, 1)), [(-1, 0, 1), (-9, 1, 10)], [(-4, 1, 5), (-2, 0, 1), (0, 0, 1)])
        self.check(("free", chaser, fleer, (0, 1)), [NOUGHT, (1, 0, 1), (-1, 0, 1)], [(1, 1, 1)])
        self.check(("free", fleer, chaser, (NEAR, 1)), [(2, 2, 1), (2, 0, 1), (1, 0, 1)], [(-2, 0, 1), (3, 0, 1), (3, 3, 1)])
        # At one place the fleer is caught at once, and nothing shows that it is not.
        for velocities in (STILL, FAST, WEDGE):
            self.check(("caught", (STILL, NOUGHT), (velocities, NOUGHT), (0, 1)), [()], [NOUGHT])
            self.check(("free", (STILL, NOUGHT), (velocities, NOUGHT), (0, 1)), [], [velocities[0], NOUGHT])
        self.check(("caught", (STILL, NOUGHT), (STILL, (1, 0, 1)), (9, 1)), [], [()])
        self.check(("free", (STILL, NOUGHT), (STILL, (1, 0, 1)), (9, 1)), [NOUGHT], [(1, 0, 1)])

    def test_notes(self):
        log = (made(2, 0), made(0, 2), made(3, 0), barred(2, 1), ("barred", (1, 1, 2), ONE))
        self.check(("fits", log[:4], TERN), [], [()])
        self.check(("fits", log[:4], ((0, 0, 1), (3, 0, 1), (0, 2, 1))), [()], [(0,), TERN])
        self.check(("fits", log, ((0, 0, 1), (3, 0, 1), (0, 2, 1))), [], [()])
        self.check(("fits", (), WEDGE), [()], [])
        self.check(("no figure", log), [(0, 1, 4), (1, 2, 4), (0, 1, 2, 4), (0, 1, 3, 4)], [
            (0, 4), (1, 0, 4), (0, 1, 1, 4), (0, 1, 2, 3), (0, 1, 2, 3, 4), (0, 1, -1), (0, 1, 5), [0, 1, 4], (False, 1, 4),
            (False, True, 4), (4, 1, 0), ((0,), (1,), (4,)), (0, 1, "4"), (0, 1, 4, 4), (0, 1, 4, None), (0, 1, Odd())])
        self.check(("no figure", log[:4]), [], [(0,), (0, 1, 2, 3), (0, 1, 3)])
        self.check(("no figure", (barred(0, 0),)), [(0,)], [(0, 0), (1,), (-1,), (False,)])
        self.check(("no figure", (made(1, 1), barred(1, 1))), [(0, 1)], [(0,), (1,), (1, 0)])
        self.check(("no figure", ()), [], [(0,)])

    def test_shores(self):
        drifting = ((1, -1, 1), (3, -1, 1), (3, 1, 1), (1, 1, 1))
        one, two = (1, 1, 9), (1, -1, 9)
        self.check(("held off", drifting, (one,)), [(1, -1, 1)], [(1, 1, 1), (2, 0, 1), (0, 0, 1), (1, -2, 1), [1, -1, 1]])
        self.check(("held off", BOX, (one, two)), [NOUGHT, (-1, 0, 1), (-1, 1, 1)], [(1, 0, 1), (-2, 0, 1), (1, -1, 1)])
        self.check(("held off", drifting, (one, two)), [], [(1, -1, 1), (1, 1, 1), (1, 0, 1)])
        self.check(("embayed", drifting, (one, two)), [(1, 1), (3, 4), (9, 7)], [
            (1, 0), (0, 1), (0, 0), (1, 1, 0), (1,), (1, -1), (True, 1), [1, 1], (1, 2, 3), ("1", 1), (0, 10 ** 40)])
        self.check(("embayed", drifting, ((1, 0, 5), (0, 1, 1))), [(1, 0), (7, 0), (3, 2)], [(0, 1), (1, 1), (1, 9)])
        self.check(("embayed", drifting, (one,)), [], [(1,), (0,)])


# One claim of each word that is so, with a paper that shows it.
SHOWN = [
    (("in time", KITE, (-2, 2, 1), (4, 1)), (((1, 2, 1), (1, 1)), ((-1, 0, 1), (3, 1)))),
    (("too late", TERN, (3, 1, 1), (1, 1)), (1, 1, 2)), (("never later", KITE, DIAMOND), ()),
    (("later", DIAMOND, KITE), (1, -2, 1)), (("never behind", BOX, EAST, DIAMOND, EAST), ()),
    (("behind", DIAMOND, EAST, BOX, EAST), (1, 1)), (("known", SKY, (BOX, WEDGE), NOUGHT, GOAL, 1), ()),
    (("barred", SKY, (BOX, WEDGE), NOUGHT, NORTH_GOAL, 1), ((1,), (-1, 1, 0))),
    (("sure", SKY, (BOX, WEDGE), GOAL, None, 1, NOUGHT), ()), (("unsure", SKY, (BOX, WEDGE), GOAL, FAST, 1, (2, 0, 1)), ()),
    (("soonest", DIAMOND, ISLES, NOUGHT, (4, 0, 1), (6, 1)), (ROUTE, HEIGHTS)),
    (("first", (DIAMOND, NOUGHT), (BOX, (4, 0, 1)), ((0, 0, 1), (2, 0, 1))), ()),
    (("not first", (DIAMOND, NOUGHT), (BOX, (4, 0, 1)), FAST), (2, 2, 1)),
    (("caught", (FAST, (6, 0, 1)), (DIAMOND, NOUGHT), (6, 1)), ()),
    (("free", (FAST, (6, 0, 1)), (DIAMOND, NOUGHT), (5, 1)), (-1, 0, 1)),
    (("fits", (made(1, 0), barred(2, 1)), TERN), ()), (("no figure", (made(1, 1), barred(1, 1))), (0, 1)),
    (("held off", BOX, ((1, 1, 9), (1, -1, 9))), NOUGHT),
    (("embayed", ((1, -1, 1), (3, -1, 1), (3, 1, 1), (1, 1, 1)), ((1, 1, 9), (1, -1, 9))), (1, 1)),
]


class Claims(unittest.TestCase):
    def test_each_word_has_a_claim(self):
        self.assertEqual([claim[0] for claim, paper in SHOWN], list(PARTS))
        for claim, paper in SHOWN:
            self.assertIs(accepts(claim, paper), True, claim)

    def test_papers_of_other_claims(self):
        strange = 0
        for claim, right in SHOWN:
            for other, paper in SHOWN:
                self.assertIs(accepts(claim, paper), slow_accepts(claim, paper), (claim, paper))
                strange += paper != right and accepts(claim, paper)
        # Some papers are just points, and so show something of other claims, too.
        self.assertLess(strange, 10)

    def test_values_of_any_kind(self):
        papers = [paper for claim, paper in SHOWN]
        for value in ANY + [Odd(), deep(14), ("in time",), ("in time", Odd(), Odd(), Odd()), (Odd(), 1, 2, 3), "in time",
                            ["in time", KITE, NOUGHT, (0, 1)], ("In time", KITE, NOUGHT, (0, 1)), (b"in time",) * 4,
                            ("in  time", KITE, NOUGHT, (0, 1)), (("in time",), KITE, NOUGHT, (0, 1)), ("", KITE, KITE)]:
            for paper in papers + ANY:
                self.assertIs(accepts(value, paper), False)

    def test_arguments_that_are_not_valid(self):
        for claim, paper in SHOWN:
            for at in range(1, len(claim)):
                for wrong in ANY + [True, (KITE,), [KITE], KITE[::-1], (0, 0), (2, 2), (2, 4, 2), (1, -1), (1, 0, True)]:
                    bad = claim[:at] + (wrong,) + claim[at + 1:]
                    if isinstance(wrong, (tuple, int)) or wrong is None:
                        self.assertIs(accepts(bad, paper), slow_accepts(bad, paper), bad)
                    else:
                        self.assertIs(accepts(bad, paper), False, bad)
                bad = claim[:at] + (list(claim[at]) if isinstance(claim[at], tuple) else str(claim[at]),) + claim[at + 1:]
                self.assertIs(accepts(bad, paper), False, bad)
                self.assertIs(accepts(claim[:at] + claim[at + 1:], paper), False)
                self.assertIs(accepts(claim[:at] + claim[at:at + 1] + claim[at:], paper), False)

    def test_the_limits_of_the_parts(self):
        # Seven hours, too few figures, nine shores, seven ways, thirteen notes.
        known, sure = SHOWN[6][0], SHOWN[8][0]
        for many in (0, 7, True, "1", (1,)):
            self.assertIs(accepts(known[:-1] + (many,), ()), False)
            self.assertIs(accepts(sure[:5] + (many,) + sure[6:], ()), False)
        self.assertIs(accepts(known[:-1] + (6,), ()), slow_accepts(known[:-1] + (6,), ()))
        for claim in (known, sure):
            self.assertIs(accepts(claim[:2] + ((BOX,),) + claim[3:], ()), False)
            self.assertIs(accepts(claim[:2] + ((BOX, WEDGE, BEAM),) + claim[3:], ()), True)
            self.assertIs(accepts(claim[:2] + ((BOX, WEDGE, None),) + claim[3:], ()), False)
        self.assertIs(accepts(("held off", BOX, ((1, 0, 1),) * 8), NOUGHT), True)
        self.assertIs(accepts(("held off", BOX, ((1, 0, 1),) * 9), NOUGHT), False)
        self.assertIs(accepts(("held off", BOX, ()), NOUGHT), False)
        self.assertIs(accepts(("never behind", BOX, EAST * 6, BOX, EAST * 6), ()), True)
        self.assertIs(accepts(("never behind", BOX, EAST * 7, BOX, EAST * 7), ()), False)
        self.assertIs(accepts(("fits", (made(1, 0),) * 12, TERN), ()), True)
        self.assertIs(accepts(("fits", (made(1, 0),) * 13, TERN), ()), False)
        self.assertIs(accepts(("first", (WEDGE, NOUGHT), (BOX, NOUGHT), GOAL), ()), False)
        self.assertIs(accepts(("caught", (FAST, NOUGHT), (BOX, NOUGHT), None), ()), False)
        self.assertIs(accepts(("in time", KITE, NOUGHT, None), ()), False)

    def test_bent_claims_and_papers(self):
        rng = random.Random(1)
        seen = {}
        for _ in range(90):
            for kind in KINDS:
                claim, paper = random_certificate(rng, kind)
                self.assertIs(slow_accepts(claim, paper), True, (claim, paper))
                self.assertIs(accepts(claim, paper), True, (claim, paper))
                other = OPPOSITE.get(claim[0])
                for _ in range(6):
                    tried = claim if rng.random() < 0.5 else bent(rng, claim)
                    if other is not None and rng.random() < 0.3:
                        tried = (other,) + claim[1:]
                    it = paper if tried != claim and rng.random() < 0.5 else bent(rng, paper)
                    told = accepts(tried, it)
                    self.assertIs(told, slow_accepts(tried, it), (tried, it))
                    if tried == (other,) + claim[1:]:
                        self.assertIs(told, False)
                    row = seen.setdefault(claim[0], [0, 0])
                    row[told] += 1
        self.assertEqual(set(seen), set(PARTS))
        self.assertGreater(min(row[False] for row in seen.values()), 30, seen)


if __name__ == "__main__":
    unittest.main()
