"""The copies of one house, the head that they choose, and the book that they share."""

from stampedwait.clocks import DRIFT, Clock
from stampedwait.errors import NoCopy, NoHead, NoNumber
from stampedwait.owned import owned
from stampedwait.times import is_from_to

LEASE = 20
LONGEST_LEASE = 1000
MOST_COPIES = 5
NOTHING_PROMISED = -1


def greatest_promise(mates):
    return max([NOTHING_PROMISED if mate.promised is None else mate.promised for mate in mates])


class Mate:
    """One copy: its clock, how much of the book it has, and what it promised."""

    def __init__(self, drift):
        self.ticker = Clock(drift)
        self.up = True
        self.has = 0
        self.promised = None
        self.promised_in = 0
        # the time till which was promised to it, None unless it was chosen and not stopped since
        self.rules_till = None

    def can_promise(self):
        if not self.up or not self.ticker.is_set():
            return False
        return self.promised is None or self.ticker.is_past(self.promised)

    def may_rule(self):
        return self.rules_till is not None and self.ticker.is_ahead(self.rules_till)

    def promise(self, till, reign):
        self.promised = till
        self.promised_in = reign

    def twin(self):
        other = Mate(self.ticker.drift())
        other.ticker = self.ticker.twin()
        other.up = self.up
        other.has = self.has
        other.promised = self.promised
        other.promised_in = self.promised_in
        other.rules_till = self.rules_till
        return other


class Copies:
    """No two of them are heads at once: each promises to one alone, till a time that is past by its own clock."""

    def __init__(self, many=3, *, drift=DRIFT, lease=LEASE):
        if not is_from_to(many, 1, MOST_COPIES):
            raise NoNumber("no number of copies")
        if not is_from_to(lease, 1, LONGEST_LEASE):
            raise NoNumber("no lease")
        self.mates = [Mate(drift) for at in range(many)]
        self.lease = lease
        self.entries = []
        self.reigns = 0
        self.chosen = None

    def refuse_no_copy(self, copy):
        if not is_from_to(copy, 0, len(self.mates) - 1):
            raise NoCopy(copy)

    def mate(self, copy):
        self.refuse_no_copy(copy)
        return self.mates[copy]

    def set_clock(self, copy, low, high):
        self.mate(copy).ticker.set_to(low, high)

    def tick_clock(self, copy, many=1):
        self.mate(copy).ticker.tick(many)

    def stop(self, copy):
        mate = self.mate(copy)
        mate.up = False
        mate.rules_till = None

    def back(self, copy):
        mate = self.mate(copy)
        mate.up = True

    def is_most(self, some):
        return 2 * len(some) > len(self.mates)

    def till_of(self, mate):
        """The time till which is promised to one that asks now."""
        return mate.ticker.bounds()[1] + self.lease

    def choose(self, copy):
        chosen = self.mate(copy)
        some = [mate for mate in self.mates if mate.can_promise()]
        if not chosen.can_promise() or not self.is_most(some):
            raise NoHead(None)
        floor = greatest_promise(some)
        self.reigns += 1
        self.chosen = copy
        chosen.has = max([mate.has for mate in some])
        chosen.rules_till = self.till_of(chosen)
        for mate in some:
            mate.promise(chosen.rules_till, self.reigns)
        return floor

    def head_mate(self):
        if self.head() is None:
            raise NoHead(None)
        return self.mates[self.chosen]

    def renew(self):
        head = self.head_mate()
        some = [mate for mate in self.mates if self.may_renew(mate)]
        if not self.is_most(some):
            raise NoHead(None)
        head.rules_till = max(head.rules_till, self.till_of(head))
        for mate in some:
            mate.promise(head.rules_till, self.reigns)

    def may_renew(self, mate):
        return mate.up and mate.promised_in == self.reigns or mate.can_promise()

    def catch_up(self, copy):
        mate = self.mate(copy)
        head = self.head_mate()
        if not mate.up:
            raise NoHead(None)
        mate.has = head.has

    def writers(self):
        """Those to whom an entry goes: up, and not behind."""
        return [mate for mate in self.mates if mate.up and mate.has == len(self.entries)]

    def can_write(self):
        return self.head() is not None and self.is_most(self.writers())

    def write(self, entry):
        if not self.can_write():
            raise NoHead(None)
        some = self.writers()
        self.entries.append(owned(entry))
        for mate in some:
            mate.has = len(self.entries)

    def clock(self, copy):
        return self.mate(copy).ticker.twin()

    def all_bounds(self):
        return [mate.ticker.bounds() for mate in self.mates]

    def last_promise(self):
        """The greatest time that any copy promised."""
        return greatest_promise(self.mates)

    def is_up(self, copy):
        return self.mate(copy).up

    def reign(self):
        return self.reigns

    def heads(self):
        return [at for at, mate in enumerate(self.mates) if mate.may_rule()]

    def head(self):
        if self.chosen is not None and self.mates[self.chosen].may_rule():
            return self.chosen
        return None

    def book(self, copy=None):
        many = len(self.entries) if copy is None else self.mate(copy).has
        return owned(self.entries[:many])

    def twin(self):
        other = Copies(len(self.mates), lease=self.lease)
        other.mates = [mate.twin() for mate in self.mates]
        other.entries = list(self.entries)
        other.reigns = self.reigns
        other.chosen = self.chosen
        return other

    def __len__(self):
        return len(self.mates)
