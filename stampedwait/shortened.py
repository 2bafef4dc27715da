"""Rows of deeds by which a shortened wait is shown to be too short."""

from stampedwait.clocks import DRIFT, Clock
from stampedwait.errors import NoShare
from stampedwait.times import is_drift

# with the default drift the bounds are then more than four times the share's bottom apart
TICKS_FOR_EACH = 200
LONGEST_TICK = 10000
# less than the lease of 1000, by whatever pace within the drift
LONGEST_REST = 900


def ticks_of(many, longest):
    """So many ticks as a row of numbers, none above the longest."""
    row = [longest] * (many // longest)
    if many % longest > 0:
        row.append(many % longest)
    return row


def hurried(share):
    # a share below (1, 1) is of the same form as a drift
    if not is_drift(share):
        raise NoShare("no share below the whole")
    begun = TICKS_FOR_EACH * share[1]
    return hasty_dealing(begun) + shortened_wait(begun, share) + later_dealing()


def hasty_dealing(begun):
    """House 0's clock is as fast as can be: its low stays true, its high runs ahead."""
    deeds = [("pace", 0, 0, (DRIFT[1] + DRIFT[0], DRIFT[1]))]
    deeds += [("tick", many) for many in ticks_of(begun, LONGEST_TICK)]
    return deeds + [("choose", 0, 0)] + dealing_alone(0, "a")


def dealing_alone(number, key):
    """A dealing of one house that comes to be sure; its only letter has its own number."""
    return [("begin",), ("take", number, key, "write"), ("write", number, key, (number + 1,)),
            ("finish", number), ("deliver", number)]


def shortened_wait(begun, share):
    """Just as long till by this share the wait is over; the lease is made longer meanwhile."""
    top, bottom = share
    clock = Clock(DRIFT)
    clock.set_to(0, 0)
    clock.tick(begun * (DRIFT[1] + DRIFT[0]) // DRIFT[1])
    low, high = clock.bounds()
    deeds = []
    for many in ticks_of((high - low) * top // bottom + 1, LONGEST_REST):
        deeds += [("tick", many), ("renew", 0)]
    return deeds + [("tell", 0)]


def later_dealing():
    """Begun when the first one was told; house 1's clock is set right, and its stamp is less."""
    deeds = [("set", 1, 0, 0, 0), ("choose", 1, 0)] + dealing_alone(1, "b")
    return deeds + [("tick", 5), ("tell", 1)]
