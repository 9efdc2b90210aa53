"""All errors of the package: each one stands directly under LotError and keeps what it was made of."""


class LotError(ValueError):
    """The class above all errors of the package."""


class BadThings(LotError):
    """A list of things is wrong at an index, or too long (-1)."""

    def __init__(self, index):
        self.index = index


class BadLot(LotError):
    """A lot has, at an index, what is no thing or stands ahead of it, too."""

    def __init__(self, index):
        self.index = index


class NoThing(LotError):
    """A string is not one of the things."""

    def __init__(self, thing):
        self.thing = thing


class InLot(LotError):
    """A thing is in the lot already."""

    def __init__(self, thing):
        self.thing = thing


class NotFree(LotError):
    """A lot is not free."""


class NotBase(LotError):
    """A lot is not a base, or not one of the kind that is asked for."""


class UnlikeThings(LotError):
    """Families that one question compares have unlike things."""


class SameThing(LotError):
    """A thing stands where it must not stand a second time."""

    def __init__(self, thing):
        self.thing = thing


class TooMany(LotError):
    """There are more than the limit."""

    def __init__(self, limit):
        self.limit = limit


class BadWeights(LotError):
    """Weights are wrong at a string."""

    def __init__(self, thing):
        self.thing = thing


class BadNumber(LotError):
    """A value is not a number that may stand here."""

    def __init__(self, number):
        self.number = number


class BadBases(LotError):
    """A list of bases is wrong at an index, or empty (-1)."""

    def __init__(self, index):
        self.index = index


class BrokenBases(LotError):
    """A thing of one base has no exchange in the other one."""

    def __init__(self, one, other, thing):
        self.one = one
        self.other = other
        self.thing = thing


class BadNames(LotError):
    """New names are wrong at a string."""

    def __init__(self, thing):
        self.thing = thing


class BadPlaces(LotError):
    """A list of places is wrong at an index, or has a wrong length (-1)."""

    def __init__(self, index):
        self.index = index


class BadTies(LotError):
    """A tie has a wrong name or wrong ends."""

    def __init__(self, name):
        self.name = name


class NoText(LotError):
    """A value is not a text, from a line on."""

    def __init__(self, line):
        self.line = line


class NothingToUndo(LotError):
    """Nothing stands that could be taken back."""


class BadRows(LotError):
    """A thing has a wrong name or a wrong row."""

    def __init__(self, thing):
        self.thing = thing


class BadRooms(LotError):
    """A list of rooms is wrong at an index, or too long (-1)."""

    def __init__(self, index):
        self.index = index


class CrossedRooms(LotError):
    """Two rooms share a thing, and neither holds the other one."""

    def __init__(self, one, other):
        self.one = one
        self.other = other


class BadJobs(LotError):
    """The jobs of a person are wrong."""

    def __init__(self, person):
        self.person = person


class BadSteps(LotError):
    """A list of steps is wrong at an index, or a step is not there (-1)."""

    def __init__(self, index):
        self.index = index


class BadDoors(LotError):
    """A list of doors is wrong at an index, or a door is not there (-1)."""

    def __init__(self, index):
        self.index = index


class BadGates(LotError):
    """A list of gates is wrong at an index, or a gate is not there (-1)."""

    def __init__(self, index):
        self.index = index


class BadPaper(LotError):
    """A paper of the game is not a right one."""


class BadPlayer(LotError):
    """A string is the name of no player."""

    def __init__(self, name):
        self.name = name


class Gone(LotError):
    """A thing is taken already."""

    def __init__(self, thing):
        self.thing = thing


class BadDeed(LotError):
    """A value is not a deed of the world."""


class NothingToRedo(LotError):
    """Nothing was undone that could be done again."""
