"""Clocks that tell two bounds of the true time."""

from stampedwait.errors import NoBounds, NoDrift, Unset
from stampedwait.times import is_drift, is_whole, least_of, most_of, refuse_no_count

DRIFT = (1, 100)


def bounds_behind(stands, counted, drift):
    """The bounds told when so many ticks are counted behind a setting to these; None of none."""
    if stands is None:
        return None
    return (stands[0] + least_of(counted, drift), stands[1] + most_of(counted, drift))


def set_between(told, low, high):
    """The bounds that a clock which tells these (None: none yet) stands set to by new ones."""
    if not is_whole(low) or not is_whole(high) or low > high:
        raise NoBounds(low, high)
    if told is None:
        return (low, high)
    least = max(low, told[0])
    most = min(high, told[1])
    if least > most:
        raise NoBounds(low, high)
    return (least, most)


class Clock:
    """Counts ticks at a pace within its drift, from the bounds it was set to."""

    def __init__(self, drift=DRIFT):
        if not is_drift(drift):
            raise NoDrift("no drift")
        self.most_drift = drift
        self.stands = None
        self.counted = 0

    def drift(self):
        return self.most_drift

    def is_set(self):
        return self.stands is not None

    def set_to(self, low, high):
        told = bounds_behind(self.stands, self.counted, self.most_drift)
        self.stands = set_between(told, low, high)
        self.counted = 0

    def tick(self, many=1):
        refuse_no_count(many)
        self.counted += many

    def bounds(self):
        if self.stands is None:
            raise Unset("the clock was never set")
        return bounds_behind(self.stands, self.counted, self.most_drift)

    def is_past(self, time):
        return self.bounds()[0] > time

    def is_ahead(self, time):
        return self.bounds()[1] < time

    def twin(self):
        other = Clock(self.most_drift)
        other.stands = self.stands
        other.counted = self.counted
        return other

    def __eq__(self, other):
        return (isinstance(other, Clock) and self.most_drift == other.most_drift
                and self.stands == other.stands and self.counted == other.counted)
