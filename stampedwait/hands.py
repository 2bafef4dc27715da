"""Paces: how a clock counts the true ticks.

A hand is a tuple (pace, over): over is the part of a tick that the clock
hasn't counted yet and that stays over for the next time, as (top, bottom).
"""

from stampedwait.times import MOST_BOTTOM, common_divisor, is_from_to, is_row_of_whole

NOTHING_OVER = (0, 1)
# by a pace of 1, with nothing over
EVEN_HAND = ((1, 1), (0, 1))


def is_pace(thing, drift):
    """Whether it is from 1 less the drift to 1 and the drift, in whatever terms."""
    if not is_row_of_whole(thing, 2, 2):
        return False
    top, bottom = thing
    if not is_from_to(bottom, 1, MOST_BOTTOM):
        return False
    return abs(top - bottom) * drift[1] <= drift[0] * bottom


def with_pace(hand, pace):
    return (pace, hand[1])


def begun_anew(hand):
    return (hand[0], NOTHING_OVER)


def counted_on(hand, many):
    """How many ticks a clock counts while so many true ones go by, and its hand then."""
    (top, bottom), (over, parts) = hand
    if top == bottom:
        # as many as go by: what is over stays as it is
        return (many, hand)
    whole, rest = divmod(over * bottom + many * top * parts, parts * bottom)
    shared = common_divisor(parts * bottom, rest)
    return (whole, (hand[0], (rest // shared, parts * bottom // shared)))
