"""The errors: each stands under WindError alone and keeps the attribute that it is made with."""


class WindError(ValueError):
    """What all errors of this package stand under."""


class InvalidFraction(WindError):
    def __init__(self, given):
        self.given = given


class InvalidTime(WindError):
    def __init__(self, given):
        self.given = given


class InvalidPoint(WindError):
    def __init__(self, given):
        self.given = given


class InvalidDirection(WindError):
    def __init__(self, given):
        self.given = given


class InvalidSide(WindError):
    def __init__(self, given):
        self.given = given


class InvalidNormal(WindError):
    def __init__(self, given):
        self.given = given


class InvalidPolygon(WindError):
    def __init__(self, given):
        self.given = given


class InvalidFigure(WindError):
    def __init__(self, given):
        self.given = given


class InvalidWater(WindError):
    def __init__(self, given):
        self.given = given


class InvalidWind(WindError):
    def __init__(self, given):
        self.given = given


class InvalidArc(WindError):
    def __init__(self, given):
        self.given = given


class InvalidNote(WindError):
    def __init__(self, given):
        self.given = given


class InvalidWeather(WindError):
    def __init__(self, given):
        self.given = given


class InvalidNumber(WindError):
    def __init__(self, given):
        self.given = given


class InvalidIndex(WindError):
    def __init__(self, given):
        self.given = given


class InvalidOrder(WindError):
    def __init__(self, given):
        self.given = given


class InvalidChannel(WindError):
    def __init__(self, given):
        self.given = given


class InvalidForm(WindError):
    def __init__(self, given):
        self.given = given


class InvalidWeights(WindError):
    def __init__(self, given):
        self.given = given


class InvalidMover(WindError):
    def __init__(self, given):
        self.given = given


class InvalidStarter(WindError):
    def __init__(self, given):
        self.given = given


class InvalidName(WindError):
    def __init__(self, given):
        self.given = given


class InvalidWish(WindError):
    def __init__(self, given):
        self.given = given


class InvalidPhrase(WindError):
    def __init__(self, given):
        self.given = given


class InIsle(WindError):
    def __init__(self, given):
        self.given = given


class OutOfChannel(WindError):
    def __init__(self, given):
        self.given = given


class NotAlong(WindError):
    def __init__(self, given):
        self.given = given


class OffWater(WindError):
    def __init__(self, given):
        self.given = given


class NoBearing(WindError):
    def __init__(self, given):
        self.given = given


class OutOfPolygon(WindError):
    def __init__(self, given):
        self.given = given


class NotAWorkshop(WindError):
    def __init__(self, given):
        self.given = given


class TooMany(WindError):
    def __init__(self, given):
        self.given = given


class UnknownName(WindError):
    def __init__(self, given):
        self.given = given


class Same(WindError):
    def __init__(self, given):
        self.given = given


class InvalidPoints(WindError):
    def __init__(self, index):
        self.index = index


class InvalidPaces(WindError):
    def __init__(self, index):
        self.index = index


class InvalidTacks(WindError):
    def __init__(self, index):
        self.index = index


class InvalidHours(WindError):
    def __init__(self, index):
        self.index = index


class InvalidPlaces(WindError):
    def __init__(self, index):
        self.index = index


class InvalidCourse(WindError):
    def __init__(self, index):
        self.index = index


class InvalidSails(WindError):
    def __init__(self, index):
        self.index = index


class InvalidIsles(WindError):
    def __init__(self, index):
        self.index = index


class InvalidRoute(WindError):
    def __init__(self, index):
        self.index = index


class InvalidHeights(WindError):
    def __init__(self, index):
        self.index = index


class InvalidMarks(WindError):
    def __init__(self, index):
        self.index = index


class InvalidGates(WindError):
    def __init__(self, index):
        self.index = index


class InvalidCrossing(WindError):
    def __init__(self, index):
        self.index = index


class InvalidShores(WindError):
    def __init__(self, index):
        self.index = index


class InvalidStarters(WindError):
    def __init__(self, index):
        self.index = index


class InvalidMovers(WindError):
    def __init__(self, index):
        self.index = index


class InvalidFlight(WindError):
    def __init__(self, index):
        self.index = index


class InvalidFigures(WindError):
    def __init__(self, index):
        self.index = index


class InvalidNotes(WindError):
    def __init__(self, index):
        self.index = index


class InvalidTrips(WindError):
    def __init__(self, index):
        self.index = index


class InUse(WindError):
    def __init__(self, index):
        self.index = index


class Broken(WindError):
    def __init__(self, index):
        self.index = index


class NoArea(WindError):
    """The hull of what was passed has no area."""


class NoFigureFits(WindError):
    """No figure fits the notes."""


class NotSure(WindError):
    """The fleer is not surely caught."""


class NothingToUndo(WindError):
    """No change is left that could be taken back."""
