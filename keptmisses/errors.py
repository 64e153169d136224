"""The errors of the package: all but MissError derive directly from it."""


class MissError(ValueError):
    """The base of all errors of the package."""


class NoSize(MissError):
    """A size is no integer from 2 to 4."""


class NoMachine(MissError):
    """A value is no machine."""


class NoRow(MissError):
    """A value is no row of letters."""


class NoChances(MissError):
    """A value is no tuple of chances that fit a row."""


class NoWorths(MissError):
    """A value is no tuple of 2 to 4 fractions."""


class NoChancer(MissError):
    """A value is no chancer of the machine."""


class NoState(MissError):
    """A value is no reached state of the machine."""


class NotKept(MissError):
    """The machine can't be kept."""


class NoLetter(MissError):
    """A value is no letter of the machine."""


class NothingRead(MissError):
    """There is no letter that could be taken back."""


class NoFraction(MissError):
    """A value is no fraction."""


class Held(MissError):
    """With so great a start nobody can be sure to break it."""


class NoGuessing(MissError):
    """A value is no guessing machine."""


class OtherSize(MissError):
    """Two machines are of unlike sizes."""


class NoBound(MissError):
    """An allowance would be beyond the bounds of a machine."""


class NoLetters(MissError):
    """A value is no tuple of all letters, each once."""


class NoPart(MissError):
    """A value is no fraction from 0 to 1."""


class NoCircle(MissError):
    """A value is no circle of advisers."""


class NoNumber(MissError):
    """A value is no integer within its bounds."""


class NoText(MissError):
    """A value is no text of the signs that are let."""


class NoArea(MissError):
    """A value is no area of a disk."""


class NoStand(MissError):
    """No area of the disk stands, or none can follow it."""


class NoThing(MissError):
    """A value is no thing that can be written."""


class NoItems(MissError):
    """A value is no item, or no tuple of items."""


class NoDeed(MissError):
    """A value is no deed of the store as it stands."""


class Down(MissError):
    """The store is down."""


class NotDown(MissError):
    """The store is not down."""


class TooMany(MissError):
    """There would be more than so many."""

    def __init__(self, most):
        self.most = most


class BadText(MissError):
    """The place of a text from which on no thing can be read."""

    def __init__(self, place):
        self.place = place
