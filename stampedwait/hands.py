"""Paces: how a clock counts the true ticks."""

from stampedwait.times import MOST_BOTTOM, WHOLE, common_divisor, is_from_to, is_row_of_whole

NOTHING_OVER = (0, 1)


def is_pace(thing, drift):
    """Whether it is from 1 less the drift to 1 and the drift, in whatever terms."""
    if not is_row_of_whole(thing, 2, 2):
        return False
    top, bottom = thing
    if not is_from_to(bottom, 1, MOST_BOTTOM):
        return False
    return abs(top - bottom) * drift[1] <= drift[0] * bottom


class Hand:
    """Counts whole ticks of a clock; a part of a tick stays over for the next time."""

    def __init__(self):
        self.rate = WHOLE
        self.over = NOTHING_OVER

    def change(self, pace):
        self.rate = pace

    def begin_anew(self):
        self.over = NOTHING_OVER

    def count_on(self, many):
        """How many ticks the clock counts while so many true ones go by."""
        top, bottom = self.rate
        over, parts = self.over
        whole, rest = divmod(over * bottom + many * top * parts, parts * bottom)
        shared = common_divisor(parts * bottom, rest)
        self.over = (rest // shared, parts * bottom // shared)
        return whole

    def twin(self):
        other = Hand()
        other.rate = self.rate
        other.over = self.over
        return other
