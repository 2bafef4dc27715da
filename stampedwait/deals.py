"""Dealings as their driver knows them: what each held, read and wrote, and where."""

from stampedwait.letters import PLEDGE_LETTER
from stampedwait.pledges import form_of, move_of
from stampedwait.tellings import DEALING_ROW, FORM_ROW

OPEN = "open"
ASKED = "asked"


def pairs_by_keys(worths):
    return [(key, worths[key]) for key in sorted(list(worths))]


class Deal:
    """What it holds stands at the houses alone; here stands by which reigns it came to hold there.

    A Deal is never changed, another one is put in its stead: so it is lent as it is.
    """

    def __init__(self, age, begun, more):
        self.age = age
        self.begun = begun
        self.more = more
        self.state = OPEN
        self.reigns = {}
        self.first_reads = {}
        self.reads = {}
        self.wrote = {}
        self.writes = {}

    def all_houses(self):
        """Those where it held, by their numbers."""
        return sorted(list(self.reigns))

    def home(self):
        return min(list(self.reigns))

    def with_state(self, state):
        other = self.same()
        other.state = state
        return other

    def with_hold(self, house, reign):
        if house in self.reigns:
            return self
        other = self.same()
        other.reigns = {**self.reigns, house: reign}
        return other

    def with_read(self, house, key, worth):
        other = self.same()
        if key not in self.first_reads:
            other.first_reads = {**self.first_reads, key: worth}
        other.reads = {**self.reads, house: {**self.reads.get(house, {}), key: True}}
        return other

    def with_write(self, house, key, worth):
        other = self.same()
        other.wrote = {**self.wrote, key: worth}
        other.writes = {**self.writes, house: {**self.writes.get(house, {}), key: worth}}
        return other

    def goal_of(self, key, house):
        """For which house a writing of a key that is held at this one is kept."""
        move = move_of(self.more)
        return move[1] if move is not None and move[0] == key else house

    def pledge_letters(self, dealing):
        houses = tuple(self.all_houses())
        return [(PLEDGE_LETTER, dealing, houses[0], house, self.pledge_body(houses, house)) for house in houses]

    def pledge_body(self, houses, house):
        reads = sorted(list(self.reads.get(house, {})))
        writes = pairs_by_keys(self.writes.get(house, {}))
        return (houses, self.reigns[house], tuple(reads), tuple(writes), self.more)

    def kept_rows(self, dealing, told, stamp):
        """What is kept for a history of it, told at this true time."""
        reads = [(key, self.first_reads[key]) for key in self.first_reads]
        rows = [(DEALING_ROW, dealing, self.begun, told, stamp, tuple(reads), tuple(pairs_by_keys(self.wrote)))]
        form = form_of(self.more)
        if form is not None:
            time, fields = form
            rows.append((FORM_ROW, time, fields))
        return rows

    def same(self):
        """Another one that is the same, for what is put in its stead."""
        other = Deal(self.age, self.begun, self.more)
        other.state = self.state
        other.reigns = self.reigns
        other.first_reads = self.first_reads
        other.reads = self.reads
        other.wrote = self.wrote
        other.writes = self.writes
        return other
