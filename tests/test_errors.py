"""[4], and the list of errors in the interface."""
import unittest

from tests.helpers import Odd, deep
from windfigure import errors

GIVEN = """InvalidFraction InvalidTime InvalidPoint InvalidDirection InvalidSide InvalidNormal InvalidPolygon
InvalidFigure InvalidWater InvalidWind InvalidArc InvalidNote InvalidWeather InvalidNumber InvalidIndex InvalidOrder
InvalidChannel InvalidForm InvalidWeights InvalidMover InvalidStarter InvalidName InvalidWish InvalidPhrase InIsle
OutOfChannel NotAlong OffWater NoBearing OutOfPolygon NotAWorkshop TooMany UnknownName Same""".split()
INDEX = """InvalidPoints InvalidPaces InvalidTacks InvalidHours InvalidPlaces InvalidCourse InvalidSails InvalidIsles
InvalidRoute InvalidHeights InvalidMarks InvalidGates InvalidCrossing InvalidShores InvalidStarters InvalidMovers
InvalidFlight InvalidFigures InvalidNotes InvalidTrips InUse Broken""".split()
BARE = ["NoArea", "NoFigureFits", "NotSure", "NothingToUndo"]
VALUES = [None, True, False, 0, -1, 10 ** 50, "", "x", b"x", (), [], {}, set(), Odd(), len, int, object(), deep(14)]


class Errors(unittest.TestCase):
    def check_class(self, name, attribute, other):
        made = getattr(errors, name)
        for value in VALUES:
            self.assertIs(getattr(made(value), attribute), value)
            self.assertIs(getattr(made(**{attribute: value}), attribute), value)
            self.assertFalse(hasattr(made(value), other))
        with self.assertRaises(TypeError):
            made()
        with self.assertRaises(TypeError):
            made(1, 2)

    def test_errors_with_given(self):
        self.assertEqual(len(set(GIVEN)), 34)
        for name in GIVEN:
            with self.subTest(name):
                self.check_class(name, "given", "index")

    def test_errors_with_index(self):
        self.assertEqual(len(set(INDEX)), 22)
        for name in INDEX:
            with self.subTest(name):
                self.check_class(name, "index", "given")

    def test_errors_without_attributes(self):
        for name in BARE + ["WindError"]:
            with self.subTest(name):
                made = getattr(errors, name)()
                self.assertFalse(hasattr(made, "given"))
                self.assertFalse(hasattr(made, "index"))
                self.assertEqual(vars(made), {})

    def test_each_stands_under_one_base_alone(self):
        self.assertEqual(errors.WindError.__mro__, (errors.WindError,) + ValueError.__mro__)
        for name in GIVEN + INDEX + BARE:
            with self.subTest(name):
                made = getattr(errors, name)
                self.assertEqual(made.__name__, name)
                self.assertEqual(made.__module__, "windfigure.errors")
                self.assertEqual(made.__bases__, (errors.WindError,))
                self.assertEqual(made.__mro__, (made,) + errors.WindError.__mro__)

    def test_raised_ones_are_caught_by_their_bases(self):
        for name in GIVEN + INDEX + BARE:
            made = getattr(errors, name)
            for base in (made, errors.WindError, ValueError, Exception):
                with self.assertRaises(base):
                    raise made() if name in BARE else made(3)
        for base in (errors.WindError, ValueError):
            with self.assertRaises(base):
                raise errors.WindError()

    def test_no_other_class(self):
        found = [name for name in vars(errors) if isinstance(getattr(errors, name), type)]
        self.assertEqual(sorted(found), sorted(GIVEN + INDEX + BARE + ["WindError"]))


if __name__ == "__main__":
    unittest.main()
