"""Clocks that tell two bounds of the true time."""

from stampedwait.errors import NoBounds, NoDrift, Unset
from stampedwait.times import is_drift, is_whole, least_passed, most_passed, refuse_no_count

DRIFT = (1, 100)


class Clock:
    """Counts ticks at a pace within its drift, from the bounds it was set to."""

    def __init__(self, drift=DRIFT):
        if not is_drift(drift):
            raise NoDrift("no drift")
        self.most_drift = drift
        self.stands = None
        self.counted = 0

    def drift(self):
        return self.most_drift

    def is_set(self):
        return self.stands is not None

    def set_to(self, low, high):
        if not is_whole(low) or not is_whole(high) or low > high:
            raise NoBounds(low, high)
        least = low
        most = high
        if self.is_set():
            told_low, told_high = self.bounds()
            least = max(low, told_low)
            most = min(high, told_high)
        if least > most:
            raise NoBounds(low, high)
        self.stands = (least, most)
        self.counted = 0

    def tick(self, many=1):
        refuse_no_count(many)
        self.counted += many

    def bounds(self):
        if not self.is_set():
            raise Unset("the clock was never set")
        low, high = self.stands
        least = least_passed(self.counted, self.most_drift)
        most = most_passed(self.counted, self.most_drift)
        return (low + least, high + most)

    def is_past(self, time):
        return self.bounds()[0] > time

    def is_ahead(self, time):
        return self.bounds()[1] < time

    def twin(self):
        other = Clock(self.most_drift)
        other.stands = self.stands
        other.counted = self.counted
        return other

    def __eq__(self, other):
        return (isinstance(other, Clock) and self.most_drift == other.most_drift
                and self.stands == other.stands and self.counted == other.counted)
