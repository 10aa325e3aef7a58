"""Values that are wrong for parameters, from those of figures and winds on."""
from tests.helpers import (ANY, NO_TUPLES, NOT_DIRECTION, NOT_FIGURE, NOT_FRACTION, NOT_POINT, NOT_POLYGON, NOT_SIDE,
                           NOT_TIME, TRIANGLE, WRONG_WHOLES)

NOUGHT = (0, 0, 1)
KITE = ((-1, 0, 1), (1, -2, 1), (3, 0, 1), (1, 2, 1))
DIAMOND = ((-1, 0, 1), (0, -1, 1), (1, 0, 1), (0, 1, 1))
BOX = ((-1, -1, 1), (1, -1, 1), (1, 1, 1), (-1, 1, 1))
WEDGE = ((0, 0, 1), (1, -1, 1), (1, 1, 1))
# Nought lies on the middle of an edge.
BEAM = ((-1, 0, 1), (1, 0, 1), (0, 3, 1))

EMPTY_OR_NO_TUPLE = [(value, None) for value in NO_TUPLES + [()]]


def rows_of(wrongs, right, most=None, also_empty=True):
    """What is no tuple of right elements, with the index of the first wrong one; the wrong ones may stand anywhere."""
    rows = EMPTY_OR_NO_TUPLE if also_empty else [(value, None) for value in NO_TUPLES]
    rows = rows + [([right], None), ([], None)]
    rows += [((right,) * at + (wrong,) + (right,) * later, at) for at in range(3) for later in range(2)
             for wrong in wrongs]
    rows += [((right, wrong, None), 1) for wrong in wrongs]
    if most is not None:
        rows += [((right,) * most + (right,), most), ((right,) * most + (None,), most), ((right,) * (most + 3), most),
                 ((right,) * (most - 1) + (None, right, right), most - 1)]
    return rows


NOT_TACK = ANY + [
    (NOUGHT,), (NOUGHT, (1, 1), (1, 1)), [NOUGHT, (1, 1)], (NOUGHT, [1, 1]), ((1, 1), NOUGHT), (NOUGHT, (0, 1)),
    (NOUGHT, (-1, 1)), (NOUGHT, 1)] + [(wrong, (1, 1)) for wrong in NOT_POINT] + [
    (NOUGHT, wrong) for wrong in NOT_TIME]
WRONG_TACKS = rows_of(NOT_TACK, ((1, 2, 3), (1, 2)), also_empty=False)
WRONG_PACES = rows_of(NOT_POINT, (1, 2, 3), also_empty=False)

NOT_WAY = NOT_POINT + [NOUGHT]
WRONG_COURSE = rows_of(NOT_WAY, (1, 2, 3), 6)

NOT_ARC = ANY + [
    ((1, 0), True, (0, 1)), ((1, 0), True, (0, 1), True, True), [(1, 0), True, (0, 1), True],
    ((1, 0), True, (1, 0), False), ((1, 0), False, (1, 0), True), (None, True, None, False),
    (None, False, None, True), (None, False, None, False), (None, True, (1, 0), True), ((1, 0), True, None, True),
    ((1, 0), 1, (0, 1), 1), ((1, 0), 0, (0, 1), 0), ((1, 0), 1, (0, 1), True), ((1, 0), True, (0, 1), 0),
    ((1, 0), None, (0, 1), None), (None, 1, None, 1), (None, True, None, 1), (True, (1, 0), True, (0, 1)),
    ((1, 0), (0, 1), True, True), (False, True, False, True)] + [
    (wrong, True, (0, 1), True) for wrong in NOT_DIRECTION] + [
    ((0, 1), True, wrong, False) for wrong in NOT_DIRECTION] + [(wrong, True, wrong, True) for wrong in NOT_DIRECTION
                                                                if wrong is not None]

WRONG_SAILS = rows_of(NOT_FIGURE, KITE, 8)

# In the last four nought is a corner or lies on a side.
NOT_STARTER = ANY + [(KITE,), (KITE, NOUGHT, NOUGHT), [KITE, NOUGHT], (NOUGHT, KITE), KITE, (KITE, (0, 0)),
                     (TRIANGLE, NOUGHT), (WEDGE, NOUGHT), (BEAM, NOUGHT), (BEAM, (1, 2, 3))] + [
    (wrong, NOUGHT) for wrong in NOT_FIGURE] + [(KITE, wrong) for wrong in NOT_POINT]

NOT_GATE = ANY + [(NOUGHT,), (NOUGHT, NOUGHT), ((1, 2, 3), (1, 2, 3)), (NOUGHT, (1, 0, 1), (2, 0, 1)),
                  [NOUGHT, (1, 0, 1)], NOUGHT] + [(wrong, (1, 2, 3)) for wrong in NOT_POINT] + [
    ((1, 2, 3), wrong) for wrong in NOT_POINT]
WRONG_GATES = rows_of(NOT_GATE, (NOUGHT, (1, 2, 3)), 4)

NOT_CHANNEL = ANY + [(0, 0, 1, 2), (0, 0, 0, 1), (1, 0, 1, 1), (1, 0, 2, 1), (0, 1, 0, 0), (2, 0, 0, 4), (2, 4, -2, 6),
                     (0, 3, 0, 3), [0, 1, 0, 4], (0, 1, 0), (0, 1, 0, 4, 4), (0, 1, (0, 4))] + [
    (wrong, 1, 0, 4) for wrong in WRONG_WHOLES] + [(1, wrong, 0, 4) for wrong in WRONG_WHOLES] + [
    (0, 1, wrong, 4) for wrong in WRONG_WHOLES] + [(0, 1, -1, wrong) for wrong in WRONG_WHOLES] + [
    (False, 1, 0, 4), (1, False, 0, 4), (0, 1, False, 4), (0, 1, -1, False)]

WRONG_ROUTE = rows_of(NOT_POINT, (0, 1, 1), 40)

NOT_FORM = ANY + [((1, 4),), ((1, 4), (0, 1), (0, 1)), [(1, 4), (0, 1)], ((0, 1), (0, 1)), ((-1, 4), (0, 1)),
                  ((1, 4), (-1, 4)), ((1, 4), (5, 4)), ((1, 4), (2, 1)), ((1, 4), 1), (1, (0, 1)), (1, 4),
                  ((1, 4), (-1, 10 ** 20)), ((1, 4), (10 ** 20 + 1, 10 ** 20))] + [
    (wrong, (1, 2)) for wrong in NOT_FRACTION] + [((1, 2), wrong) for wrong in NOT_FRACTION]

NOT_COUNT = [value for value in ANY if type(value) is not int] + [0, -1, -7, (1,), [1], "3", False, True]

WRONG_SHORES = rows_of(NOT_SIDE, (1, 2, 3), 8)


def not_weights(many):
    """What is no weights of so many shores."""
    right = (1,) * many
    wrongs = ANY + [right + (1,), right[1:], list(right), (right,)]
    return wrongs + [right[:at] + (wrong,) + right[at + 1:] for at in range(many) for wrong in WRONG_WHOLES + [
        -1, False, -10 ** 20, None]]

ONE_STARTER, ONE_MOVER = (KITE, (1, 2, 3)), (WEDGE, (1, 2, 3))
WRONG_STARTERS = rows_of(NOT_STARTER, ONE_STARTER, 4)

NOT_MOVER = ANY + [(KITE,), (KITE, NOUGHT, NOUGHT), [KITE, NOUGHT], (NOUGHT, KITE), KITE, (KITE, (0, 0)),
                   (KITE[1:] + KITE[:1], NOUGHT), (KITE[::-1], NOUGHT)] + [
    (wrong, NOUGHT) for wrong in NOT_POLYGON] + [(KITE, wrong) for wrong in NOT_POINT]
WRONG_MOVERS = rows_of(NOT_MOVER, ONE_MOVER, 6)

NOT_NOTE = ANY + [
    ("made", NOUGHT), ("made", NOUGHT, (1, 1), (1, 1)), ["made", NOUGHT, (1, 1)], ("made", [0, 0, 1], (1, 1)),
    (("made",), NOUGHT, (1, 1)), ("made", (1, 1), NOUGHT), ("barred", NOUGHT, (0, 1)), ("made", NOUGHT, (-1, 1)),
    ("made", NOUGHT, 1), (NOUGHT, (1, 1), "made")] + [
    (wrong, NOUGHT, (1, 1)) for wrong in ANY + ["Made", "made ", "bar", "sure", "", b"made", ("made",), ["barred"]]] + [
    ("made", wrong, (1, 1)) for wrong in NOT_POINT] + [("barred", (1, 2, 3), wrong) for wrong in NOT_TIME]
WRONG_NOTES = rows_of(NOT_NOTE, ("made", (1, 2, 3), (1, 2)), 12, also_empty=False)

WRONG_TRIPS = rows_of(NOT_TACK, ((1, 2, 3), (1, 2)), 12)

NOT_NAME = ANY + ["Gull", "gull ", " gull", "gu ll", "gull1", "1", "gu_ll", "gull\n", "GULL", "abcdefghijklm", "-", "a-b",
                  "{", "`", ("gull",), ["gull"], b"gull", "x" * 4000]
NOT_NAME = [value for value in NOT_NAME if not isinstance(value, str) or value != "x"]

WISHES = (("in time", "gull", (6, 0, 1), (2, 1)), ("never later", "gull", "tern"),
          ("never behind", "gull", ((1, 2, 3),), "tern", ((1, 2, 3), (4, 0, 1))), ("all winds", "gull", ((1, 2, 3),)),
          ("catches", "gull", "tern"), ("holds off", "gull", (1, 2, 3), ((1, 2, 3), (0, 1, 0))))


def bent_parts(value, wrongs, at):
    """The tuple with each of the wrong values in the place of one part."""
    return [value[:at] + (wrong,) + value[at + 1:] for wrong in wrongs]


def not_wishes():
    found = list(ANY)
    for wish in WISHES:
        found += [wish[:-1], wish[1:], wish + (None,), wish + wish[-1:], list(wish), (wish,), wish[::-1], wish[:1]]
        found += bent_parts(wish, ANY + ["In time", "in  time", "too late", "later", wish[0] + " ", b"catches"], 0)
        for at in range(1, len(wish)):
            wrongs = NOT_NAME
            if isinstance(wish[at], tuple):
                wrongs = {"in time": NOT_POINT, "holds off": NOT_POINT}.get(wish[0], [])
                if at == 3 and wish[0] == "in time":
                    wrongs = NOT_TIME
                if at == 3 and wish[0] == "holds off":
                    wrongs = [value for value, index in WRONG_SHORES]
                if wish[0] in ("never behind", "all winds"):
                    wrongs = [value for value, index in WRONG_COURSE]
            found += bent_parts(wish, wrongs, at)
    return found


NOT_WISH = not_wishes()
