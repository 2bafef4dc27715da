"""The copies of one house, the head that they choose, and the book that they share."""

from stampedwait.clocks import DRIFT, Clock, bounds_behind, set_between
from stampedwait.errors import NoCopy, NoDrift, NoHead, NoNumber
from stampedwait.owned import changed_at, is_fixed, owned
from stampedwait.times import is_drift, is_from_to, refuse_no_count

LEASE = 20
LONGEST_LEASE = 1000
MOST_COPIES = 5
NOTHING_PROMISED = -1


class Copies:
    """No two of them are heads at once: each promises to one alone, till a time that is past by its own clock.

    What is kept of each copy stands in lists by the copies' numbers. None of these
    is changed, another one is put in its stead: so it is lent as it is.
    """

    def __init__(self, many=3, *, drift=DRIFT, lease=LEASE):
        if not is_from_to(many, 1, MOST_COPIES):
            raise NoNumber("no number of copies")
        if not is_from_to(lease, 1, LONGEST_LEASE):
            raise NoNumber("no lease")
        if not is_drift(drift):
            raise NoDrift("no drift")
        self.most_drift = drift
        self.lease = lease
        self.ups = [True] * many
        # how many of the book's entries each has
        self.has = [0] * many
        # each one's clock: what it stands set to, its count, and the bounds that it tells, None ahead of any setting
        self.stands = [None] * many
        self.counts = [0] * many
        self.spans = [None] * many
        # what each promised, and in which reign
        self.promises = [None] * many
        self.promised_in = [0] * many
        # the time till which was promised to each, None unless it was chosen and not stopped since
        self.rules_till = [None] * many
        self.entries = []
        # whether others have these entries, too
        self.lent = False
        # whether a list or dict stands in an entry, so that a book is told as a copy throughout
        self.loose = False
        self.reigns = 0
        self.chosen = None

    def refuse_no_copy(self, copy):
        if not is_from_to(copy, 0, len(self.ups) - 1):
            raise NoCopy(copy)

    def set_clock(self, copy, low, high):
        self.refuse_no_copy(copy)
        self.stands = changed_at(self.stands, copy, set_between(self.spans[copy], low, high))
        self.counts = changed_at(self.counts, copy, 0)
        self.tell_bounds(copy)

    def set_all(self, low, high):
        """Sets all clocks, none of which was ever set or has counted."""
        self.stands = [set_between(None, low, high)] * len(self.ups)
        self.spans = [bounds_behind(self.stands[0], 0, self.most_drift)] * len(self.ups)

    def tick_clock(self, copy, many=1):
        self.refuse_no_copy(copy)
        refuse_no_count(many)
        self.counts = changed_at(self.counts, copy, self.counts[copy] + many)
        self.tell_bounds(copy)

    def tell_bounds(self, copy):
        bounds = bounds_behind(self.stands[copy], self.counts[copy], self.most_drift)
        self.spans = changed_at(self.spans, copy, bounds)

    def tick_all(self, some):
        """Each clock counts on by as many as stand at its number."""
        self.counts = [counted + many for counted, many in zip(self.counts, some)]
        self.spans = [bounds_behind(stands, counted, self.most_drift)
                      for stands, counted in zip(self.stands, self.counts)]

    def stop(self, copy):
        self.refuse_no_copy(copy)
        self.ups = changed_at(self.ups, copy, False)
        self.rules_till = changed_at(self.rules_till, copy, None)

    def back(self, copy):
        self.refuse_no_copy(copy)
        self.ups = changed_at(self.ups, copy, True)

    def is_most(self, some):
        return 2 * len(some) > len(self.ups)

    def till_of(self, copy):
        """The time till which is promised to one that asks now."""
        return self.spans[copy][1] + self.lease

    def can_promise(self, copy):
        if not self.ups[copy] or self.spans[copy] is None:
            return False
        promised = self.promises[copy]
        return promised is None or self.spans[copy][0] > promised

    def greatest_promise(self, some):
        promises = [self.promises[copy] for copy in some]
        return max([NOTHING_PROMISED if promised is None else promised for promised in promises])

    def promise(self, some, till):
        """Some promise till a time, in this reign."""
        self.promises = list(self.promises)
        self.promised_in = list(self.promised_in)
        for copy in some:
            self.promises[copy] = till
            self.promised_in[copy] = self.reigns

    def choose(self, copy):
        self.refuse_no_copy(copy)
        some = [other for other in range(len(self.ups)) if self.can_promise(other)]
        if copy not in some or not self.is_most(some):
            raise NoHead(None)
        floor = self.greatest_promise(some)
        self.reigns += 1
        self.chosen = copy
        self.has = changed_at(self.has, copy, max([self.has[other] for other in some]))
        till = self.till_of(copy)
        self.rules_till = changed_at(self.rules_till, copy, till)
        self.promise(some, till)
        return floor

    def need_head(self):
        head = self.head()
        if head is None:
            raise NoHead(None)
        return head

    def renew(self):
        head = self.need_head()
        some = [copy for copy in range(len(self.ups)) if self.may_renew(copy)]
        if not self.is_most(some):
            raise NoHead(None)
        till = max(self.rules_till[head], self.till_of(head))
        self.rules_till = changed_at(self.rules_till, head, till)
        self.promise(some, till)

    def may_renew(self, copy):
        return self.ups[copy] and self.promised_in[copy] == self.reigns or self.can_promise(copy)

    def catch_up(self, copy):
        self.refuse_no_copy(copy)
        head = self.need_head()
        if not self.ups[copy]:
            raise NoHead(None)
        self.has = changed_at(self.has, copy, self.has[head])

    def writers(self):
        """Those to whom an entry goes: up, and not behind."""
        many = len(self.entries)
        return [copy for copy, has in enumerate(self.has) if has == many and self.ups[copy]]

    def can_write(self):
        return self.head() is not None and self.is_most(self.writers())

    def write(self, entry):
        if not self.can_write():
            raise NoHead(None)
        has = list(self.has)
        for copy in self.writers():
            has[copy] += 1
        self.has = has
        if self.lent:
            self.entries = list(self.entries)
            self.lent = False
        self.loose = self.loose or not is_fixed(entry)
        self.entries.append(owned(entry) if self.loose else entry)

    def clock(self, copy):
        self.refuse_no_copy(copy)
        clock = Clock(self.most_drift)
        clock.stands = self.stands[copy]
        clock.counted = self.counts[copy]
        return clock

    def last_promise(self):
        """The greatest time that any copy promised."""
        return self.greatest_promise(list(range(len(self.ups))))

    def is_up(self, copy):
        self.refuse_no_copy(copy)
        return self.ups[copy]

    def reign(self):
        return self.reigns

    def may_rule(self, copy):
        till = self.rules_till[copy]
        return till is not None and self.spans[copy][1] < till

    def heads(self):
        return [copy for copy in range(len(self.ups)) if self.may_rule(copy)]

    def head(self):
        chosen = self.chosen
        return chosen if chosen is not None and self.may_rule(chosen) else None

    def is_behind(self, copy):
        return self.has[copy] < len(self.entries)

    def book(self, copy=None):
        many = len(self.entries)
        if copy is not None:
            self.refuse_no_copy(copy)
            many = self.has[copy]
        some = self.entries[:many]
        return owned(some) if self.loose else some

    def parts(self):
        """All that it keeps, for another one or to be put back: lent, so that a change leaves it as it is."""
        self.lent = True
        return (self.ups, self.has, self.stands, self.counts, self.spans, self.promises, self.promised_in,
                self.rules_till, self.entries, self.loose, self.reigns, self.chosen)

    def put_parts(self, parts):
        (self.ups, self.has, self.stands, self.counts, self.spans, self.promises, self.promised_in,
         self.rules_till, self.entries, self.loose, self.reigns, self.chosen) = parts
        self.lent = True

    def twin(self):
        other = Copies(len(self.ups), drift=self.most_drift, lease=self.lease)
        other.put_parts(self.parts())
        return other

    def __len__(self):
        return len(self.ups)
