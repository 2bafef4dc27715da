"""Dealings as their driver knows them: what each held, read and wrote, and where."""

from stampedwait.letters import PLEDGE_LETTER
from stampedwait.owned import owned
from stampedwait.pledges import form_of, move_of
from stampedwait.tellings import DEALING_ROW, FORM_ROW

OPEN = "open"
ASKED = "asked"


def pairs_by_keys(worths):
    return [(key, worths[key]) for key in sorted(list(worths))]


class Deal:
    """What it holds stands at the houses alone; here stands by which reigns it came to hold there."""

    def __init__(self, age, begun, more):
        self.age = age
        self.begun = begun
        self.more = more
        self.state = OPEN
        self.reigns = {}
        self.first_reads = {}
        self.reads = {}
        self.wrote = {}
        self.writes = {}

    def all_houses(self):
        """Those where it held, by their numbers."""
        return sorted(list(self.reigns))

    def home(self):
        return min(list(self.reigns))

    def keep_hold(self, house, reign):
        self.reigns.setdefault(house, reign)

    def keep_read(self, house, key, worth):
        self.first_reads.setdefault(key, worth)
        keys = self.reads.get(house, {})
        keys[key] = True
        self.reads[house] = keys

    def keep_write(self, house, key, worth):
        self.wrote[key] = worth
        worths = self.writes.get(house, {})
        worths[key] = worth
        self.writes[house] = worths

    def goal_of(self, key, house):
        """For which house a writing of a key that is held at this one is kept."""
        move = move_of(self.more)
        return move[1] if move is not None and move[0] == key else house

    def pledge_letters(self, dealing):
        houses = tuple(self.all_houses())
        return [(PLEDGE_LETTER, dealing, houses[0], house, self.pledge_body(houses, house)) for house in houses]

    def pledge_body(self, houses, house):
        reads = sorted(list(self.reads.get(house, {})))
        writes = pairs_by_keys(self.writes.get(house, {}))
        return (houses, self.reigns[house], tuple(reads), tuple(writes), self.more)

    def told_rows(self, dealing, told, stamp):
        """What stands in a history of it, told at this true time."""
        reads = [(key, self.first_reads[key]) for key in self.first_reads]
        rows = [(DEALING_ROW, dealing, self.begun, told, stamp, reads, pairs_by_keys(self.wrote))]
        form = form_of(self.more)
        if form is not None:
            time, fields = form
            rows.append((FORM_ROW, time, fields))
        return rows

    def twin(self):
        other = Deal(self.age, self.begun, self.more)
        other.state = self.state
        other.reigns = dict(self.reigns)
        other.first_reads = dict(self.first_reads)
        other.reads = owned(self.reads)
        other.wrote = dict(self.wrote)
        other.writes = owned(self.writes)
        return other
