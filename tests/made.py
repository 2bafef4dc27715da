"""Houses made ready for tests, and letters to them."""

import unittest

from stampedwait.houses import House

SURE_CLOCK = (0, 1)


def house_of(number=0, houses=2, copies=1, low=0, high=0, lease=1000, wait=(1, 1), head=0):
    """A house whose clocks tell from low to high, with a head (None: without)."""
    house = House(number, houses, copies=copies, drift=SURE_CLOCK, lease=lease, wait=wait)
    for copy in range(copies):
        house.set_clock(copy, low, high)
    if head is not None:
        house.choose(head)
    return house


def tick_all(house, many):
    for copy in range(len(house.copies())):
        house.tick_clock(copy, many)


def reign_anew(house, head=0):
    """A new reign: all promises are waited out."""
    tick_all(house, 1100)
    return house.choose(head)


def pledge_to(to, dealing, houses=(0, 1), reads=(), writes=(), more=None, reign=1):
    return ("pledge", dealing, min(houses), to, (houses, reign, reads, writes, more))


def pledged(house, dealing, houses=(0, 1), reads=(), writes=(), more=None):
    """Takes what is read and written, and gives the pledge: the answers."""
    reign = house.reign()
    for key in reads:
        house.hold(dealing, key, "read", reign=reign)
    for key, worth in writes:
        house.hold(dealing, key, "write", reign=reign, coming=True)
    if more is not None:
        house.hold(dealing, more[1] if more[0] == "move" else "*", "write", reign=reign, coming=True)
    return house.receive(pledge_to(house.number(), dealing, houses, reads, writes, more, reign))


def ended(house, dealing, time, writes=(), more=None, home=1, serial=None):
    """Done at a house that is not its home, by a stamp of this time."""
    pledged(house, dealing, (home, 9), writes=writes, more=more)
    house.receive(("done", dealing, home, house.number(), (time, 100 + dealing if serial is None else serial, home)))


def seen(house):
    """All that is told of a house, to be compared."""
    copies, ledger, holds = house.copies(), house.ledger(), house.holds()
    numbers = range(len(copies))
    return (house.number(), house.floor(), house.reign(), house.head(), copies.book(),
            [(copies.book(copy), copies.is_up(copy), copies.clock(copy)) for copy in numbers],
            [(ledger.word(d), ledger.stamp_of(d), holds.of(d)) for d in range(30)],
            ledger.pending(), ledger.last_stamp(), ledger.last_serial(), ledger.last_mark(),
            holds.waiting(), holds.called_off(), holds.pledged())


def book(house):
    return house.copies().book()


class Case(unittest.TestCase):
    # all that is told of what is asked, to be compared
    see = staticmethod(seen)

    def refused(self, asked, kind, deed, **fields):
        """It is refused so, with just these fields, and changes nothing."""
        was = self.see(asked)
        self.raised(kind, deed, **fields)
        self.assertEqual(self.see(asked), was)

    def raised(self, kind, deed, **fields):
        with self.assertRaises(kind) as caught:
            deed()
        self.assertIs(type(caught.exception), kind)
        self.assertEqual({name: getattr(caught.exception, name) for name in fields}, fields)

    def unchanged(self, asked, deed):
        was = self.see(asked)
        told = deed()
        self.assertEqual(self.see(asked), was)
        return told
