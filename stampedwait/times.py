"""Whole numbers, shares, drifts and stamps, and how much time has passed."""

from stampedwait.errors import NoNumber

WHOLE = (1, 1)
MOST_BOTTOM = 1000


def is_whole(thing):
    # Python takes True and False for numbers too
    return isinstance(thing, int) and not isinstance(thing, bool)


def is_count(thing):
    return is_whole(thing) and thing >= 0


def is_from_to(thing, least, most):
    return isinstance(thing, int) and not isinstance(thing, bool) and least <= thing <= most


def is_row_of_whole(thing, least, most):
    """Whether it is a tuple of whole numbers, from least to most many."""
    if not isinstance(thing, tuple) or not least <= len(thing) <= most:
        return False
    for part in thing:
        if not isinstance(part, int) or isinstance(part, bool):
            return False
    return True


def common_divisor(first, second):
    while second:
        first, second = second, first % second
    return first


def is_share(thing):
    if not isinstance(thing, tuple) or len(thing) != 2:
        return False
    top, bottom = thing
    if not is_from_to(bottom, 1, MOST_BOTTOM) or not is_from_to(top, 0, bottom):
        return False
    return top == 1 or common_divisor(top, bottom) == 1


def is_drift(thing):
    return is_share(thing) and thing != WHOLE


def is_stamp(thing):
    return is_row_of_whole(thing, 3, 3) and thing[1] >= 0 and thing[2] >= 0


def refuse_no_count(thing):
    if not is_count(thing):
        raise NoNumber("no whole number from 0 on")


def least_of(ticks, drift):
    """As least_passed, of what is known to be a count."""
    top, bottom = drift
    # the quotient rounded up: the one below is short of the ticks
    return -(-ticks * bottom // (bottom + top))


def most_of(ticks, drift):
    """As most_passed, of what is known to be a count."""
    top, bottom = drift
    # one less ahead of dividing: to come to ticks and 1 is too many already
    return ((ticks + 1) * bottom - 1) // (bottom - top)


def least_passed(ticks, drift):
    """The least p such that p times 1 and the drift is ticks or more."""
    refuse_no_count(ticks)
    return least_of(ticks, drift)


def most_passed(ticks, drift):
    """The greatest p such that p times 1 less the drift is below ticks and 1."""
    refuse_no_count(ticks)
    return most_of(ticks, drift)
