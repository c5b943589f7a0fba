"""The limits of the package and the errors that it raises."""

LIMITS = {
    "signs": 16,
    "table": 4096,
    "pairs": 4096,
    "halves": 256,
    "words": 4096,
    "seam": 256,
    "tracks": 64,
    "deeds": 12,
    "zones": 6,
    "ticks": 12,
    "sayings": 12,
    "seen": 256,
}


class BorderError(ValueError):
    """What all errors about wrong values have in common."""


class Missing(LookupError):
    """What the errors about names of a workshop have in common."""


class InvalidNumber(BorderError):
    """A value that is no number of the kind that is asked for."""

    def __init__(self, value):
        self.value = value
        self.code = "InvalidNumber"


class InvalidWord(BorderError):
    """A value that is no word of the kind that is asked for."""

    def __init__(self, value):
        self.value = value
        self.code = "InvalidWord"


class InvalidWindow(BorderError):
    """Two values that are no window."""

    def __init__(self, low, high):
        self.low = low
        self.high = high
        self.code = "InvalidWindow"


class InvalidTable(BorderError):
    """A value that is no table, or (from 0 on) the index of its first wrong item."""

    def __init__(self, at):
        self.at = at
        self.code = "InvalidTable"


class InvalidText(BorderError):
    """A text with a wrong or missing line."""

    def __init__(self, line, why):
        self.line = line
        self.why = why
        self.code = "InvalidText"


class InvalidSizes(BorderError):
    """A value that gives no sizes of tracks, or sizes that are not equal."""

    def __init__(self):
        self.code = "InvalidSizes"


class InvalidDeed(BorderError):
    """The index of a value that is no deed."""

    def __init__(self, at):
        self.at = at
        self.code = "InvalidDeed"


class InvalidSide(BorderError):
    """A value that is neither of the two sides."""

    def __init__(self, value):
        self.value = value
        self.code = "InvalidSide"


class InvalidPart(BorderError):
    """The index of a wrong part, -1 for the parts as a whole."""

    def __init__(self, at):
        self.at = at
        self.code = "InvalidPart"


class InvalidMatching(BorderError):
    """The index of a wrong item of a matching, -1 for the matching as a whole."""

    def __init__(self, at):
        self.at = at
        self.code = "InvalidMatching"


class InvalidZone(BorderError):
    """The index of a zone that is no machine, -1 for the zones as a whole."""

    def __init__(self, at):
        self.at = at
        self.code = "InvalidZone"


class InvalidFrame(BorderError):
    """A value that is no frame."""

    def __init__(self):
        self.code = "InvalidFrame"


class InvalidSaying(BorderError):
    """Values that are no saying."""

    def __init__(self):
        self.code = "InvalidSaying"


class InvalidName(BorderError):
    """A value that is no name."""

    def __init__(self, value):
        self.value = value
        self.code = "InvalidName"


class InvalidThing(BorderError):
    """The name of a value that is no thing of a workshop."""

    def __init__(self, name):
        self.name = name
        self.code = "InvalidThing"


class NotAllowed(BorderError):
    """A sign that its cell can't have."""

    def __init__(self, sign, cell):
        self.sign = sign
        self.cell = cell
        self.code = "NotAllowed"


class NotBack(BorderError):
    """A rule that does not lead back from another one."""

    def __init__(self):
        self.code = "NotBack"


class Loses(BorderError):
    """The least meeting pair of a rule that loses something."""

    def __init__(self, one, other):
        self.one = one
        self.other = other
        self.code = "Loses"


class UnlikeSigns(BorderError):
    """Two numbers of signs that should be equal."""

    def __init__(self, one, other):
        self.one = one
        self.other = other
        self.code = "UnlikeSigns"


class UnlikeFlows(BorderError):
    """Two flows that should be equal."""

    def __init__(self, one, other):
        self.one = one
        self.other = other
        self.code = "UnlikeFlows"


class UnlikeGrounds(BorderError):
    """Two grounds that should be equal."""

    def __init__(self):
        self.code = "UnlikeGrounds"


class UnlikeFloors(BorderError):
    """Two floors that are not kin."""

    def __init__(self):
        self.code = "UnlikeFloors"


class UnlikeMachines(BorderError):
    """Two machines that should be equal."""

    def __init__(self):
        self.code = "UnlikeMachines"


class NoSpeed(BorderError):
    """Two primes that bar a speed."""

    def __init__(self, prime, other):
        self.prime = prime
        self.other = other
        self.code = "NoSpeed"


class UnlikeSpeeds(BorderError):
    """Two speeds that should be equal."""

    def __init__(self, one, other):
        self.one = one
        self.other = other
        self.code = "UnlikeSpeeds"


class TooNarrow(BorderError):
    """A zone that has fewer cells than the least number."""

    def __init__(self, zone, least):
        self.zone = zone
        self.least = least
        self.code = "TooNarrow"


class TooMany(BorderError):
    """A count above the limit of a word of LIMITS."""

    def __init__(self, what, count):
        self.what = what
        self.count = count
        self.code = "TooMany"


class CellsLeft(BorderError):
    """The number of cells that have still to be done."""

    def __init__(self, count):
        self.count = count
        self.code = "CellsLeft"


class CantStand(BorderError):
    """The name of a saying that can't be kept."""

    def __init__(self, name):
        self.name = name
        self.code = "CantStand"


class DuplicateName(BorderError):
    """A name that is taken."""

    def __init__(self, name):
        self.name = name
        self.code = "DuplicateName"


class Refused(BorderError):
    """The index of a deed of a batch that raises an error."""

    def __init__(self, at):
        self.at = at
        self.code = "Refused"


class UnknownName(Missing):
    """A name that nothing has."""

    def __init__(self, name):
        self.name = name
        self.code = "UnknownName"


class WrongThing(Missing):
    """The name of a thing of another kind."""

    def __init__(self, name):
        self.name = name
        self.code = "WrongThing"


class NothingLeft(IndexError):
    """There is nothing to undo or to redo."""

    def __init__(self):
        self.code = "NothingLeft"
