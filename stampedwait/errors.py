"""The refusals of the program.

Each stands straight under the class of Python that the interface tells, so
that none is caught in the stead of another. None calls what stands above it:
Python keeps what was handed in by places by itself, of whatever kind it is.
"""


class WaitError(ValueError):
    """Above all refusals of things that are not of the kind or form asked for."""

    def __init__(self, text=""):
        self.text = text


class NoBounds(WaitError):
    """What is no pair of bounds, or has no time in common with those told."""

    def __init__(self, low, high):
        self.low = low
        self.high = high


class NoText(WaitError):
    """What is no text of a deed."""

    def __init__(self, row):
        self.row = row


class NoNumber(WaitError):
    """What is no whole number, or none within its limits."""


class NoDrift(WaitError):
    """What is no drift."""


class NoShare(WaitError):
    """What is no share."""


class NoPace(WaitError):
    """What is no pace within the drift."""


class NoStamp(WaitError):
    """What is no stamp, or none above the last one."""


class NoWorth(WaitError):
    """What is no worth."""


class NoLetter(WaitError):
    """What is no letter."""


class NoForm(WaitError):
    """What is no form of worths."""


class NoDeed(WaitError):
    """What is no deed, or can't be done."""


class NoHistory(WaitError):
    """What is no history that is ordered."""


class NoRow(WaitError):
    """What is no row of the desk."""


class NoKey(KeyError):
    """What is no key."""

    def __init__(self, key):
        self.key = key


class NoName(KeyError):
    """A name by which nothing is kept."""

    def __init__(self, name):
        self.name = name


class Gone(LookupError):
    """Worths at times below this one were let go."""

    def __init__(self, time):
        self.time = time


class Elsewhere(LookupError):
    """The key is at another house."""

    def __init__(self, key, house):
        self.key = key
        self.house = house


class NoCopy(IndexError):
    """What is no copy, or no house."""

    def __init__(self, copy):
        self.copy = copy


class NoDealing(IndexError):
    """What is no dealing that was begun."""

    def __init__(self, dealing):
        self.dealing = dealing


class NoHold(RuntimeError):
    """The key is not held so."""

    def __init__(self, key):
        self.key = key


class NoHead(RuntimeError):
    """The house has no head, or its head can't do it."""

    def __init__(self, house):
        self.house = house


class Waits(RuntimeError):
    """It has to wait for this time."""

    def __init__(self, time):
        self.time = time


class Early(RuntimeError):
    """The time asked for may be ahead still."""

    def __init__(self, time):
        self.time = time


class Off(RuntimeError):
    """The dealing is called off."""

    def __init__(self, dealing):
        self.dealing = dealing


class Sure(RuntimeError):
    """The dealing is sure by this stamp."""

    def __init__(self, stamp):
        self.stamp = stamp


class Unset(RuntimeError):
    """The clock was never set."""

    def __init__(self, text):
        self.text = text


class Bare(RuntimeError):
    """The dealing never held anything, or was not finished."""

    def __init__(self, text):
        self.text = text
