"""What a house's book says: of each dealing, of the worths, of where keys are, and of forms."""

from stampedwait.pledges import PLEDGE, form_in, move_in, pledge_times, stamp_in, writes_in
from stampedwait.shelves import Shelf

PLEDGED = "pledged"
SURE = "sure"
DONE = "done"
OFF = "off"
MARK = "mark"
GONE = "gone"
NO_TIME = -1


def first_house(key, houses):
    return sum([ord(sign) - ord("a") for sign in key]) % houses


def last_up_to(rows, time, otherwise):
    """The thing of the last of some rows (time, thing) that is up to this time."""
    some = [thing for begun, thing in rows if begun <= time]
    return some[-1] if some else otherwise


def shaped(worth, fields):
    """A worth by as many fields as stand ahead, noughts where it has fewer."""
    if worth is None or fields is None:
        return worth
    return (worth + (0,) * fields)[:fields]


class Ledger:
    """Notes the entries of a house's book, or of a beginning of it, one by one."""

    def __init__(self, house, houses=1):
        self.at_house = house
        self.many_houses = houses
        self.words = {}
        self.pledges = {}
        self.unended = {}
        self.stamps = {}
        self.lows = {}
        self.greatest_stamp = None
        self.greatest_serial = 0
        self.greatest_mark = None
        self.worths = Shelf()
        self.moved = {}
        self.forms = []

    def note(self, entry):
        word = entry[0]
        if word == PLEDGE:
            self.note_pledge(entry)
        elif word == SURE:
            self.note_sure(entry)
        elif word == DONE:
            self.note_done(entry)
        elif word == OFF:
            self.note_end(entry[1], OFF)
        elif word == MARK:
            self.note_mark(entry[1])
        elif word == GONE:
            self.worths.let_go(entry[1])

    def note_pledge(self, entry):
        dealing = entry[1]
        self.words[dealing] = PLEDGED
        self.pledges[dealing] = entry
        self.unended[dealing] = True
        self.note_stamp(stamp_in(entry))

    def note_sure(self, entry):
        dealing = entry[1]
        self.words[dealing] = SURE
        self.stamps[dealing] = entry[2]
        self.lows[dealing] = entry[3]
        self.note_stamp(entry[2])

    def note_done(self, entry):
        dealing = entry[1]
        stamp = entry[2]
        pledge = self.pledges[dealing]
        self.note_end(dealing, DONE)
        self.stamps[dealing] = stamp
        self.note_stamp(stamp)
        for key, worth in writes_in(pledge):
            self.worths.put(key, stamp, worth)
        move = move_in(pledge)
        if move is not None:
            key, to = move
            self.moved[key] = self.moved.get(key, []) + [(stamp[0], to)]
        form = form_in(pledge)
        if form is not None:
            # sorted by time alone, so that of like times the one done last stays last
            self.forms = sorted(self.forms + [form], key=lambda row: row[0])

    def note_end(self, dealing, word):
        self.words[dealing] = word
        self.unended.pop(dealing, None)

    def note_stamp(self, stamp):
        if self.greatest_stamp is None or stamp > self.greatest_stamp:
            self.greatest_stamp = stamp
        self.greatest_serial = max(self.greatest_serial, stamp[1])

    def note_mark(self, time):
        if self.greatest_mark is None or time > self.greatest_mark:
            self.greatest_mark = time

    def word(self, dealing):
        return self.words.get(dealing)

    def pledge_of(self, dealing):
        return self.pledges.get(dealing)

    def stamp_of(self, dealing):
        return self.stamps.get(dealing)

    def low_of(self, dealing):
        return self.lows.get(dealing)

    def pending(self):
        return sorted(list(self.unended))

    def pending_pledges(self):
        return [self.pledges[dealing] for dealing in self.pending()]

    def last_stamp(self):
        if self.greatest_stamp is None:
            return (NO_TIME, 0, self.at_house)
        return self.greatest_stamp

    def last_serial(self):
        return self.greatest_serial

    def last_mark(self):
        return NO_TIME if self.greatest_mark is None else self.greatest_mark

    def shelf(self):
        return self.worths.twin()

    def newest(self, key):
        return self.worths.newest(key)

    def gone_to(self):
        return self.worths.gone_to()

    def refuse_gone(self, time):
        self.worths.refuse_gone(time)

    def house_of(self, key):
        rows = self.moved.get(key)
        return rows[-1][1] if rows else first_house(key, self.many_houses)

    def house_at(self, key, time):
        return last_up_to(self.moved.get(key, []), time, first_house(key, self.many_houses))

    def fields_at(self, time):
        return last_up_to(self.forms, time, None)

    def worth_at(self, key, time):
        return shaped(self.worths.at(key, time), self.fields_at(time))

    def safe(self):
        most = max(self.last_mark(), self.last_stamp()[0] - 1)
        return min([most] + [time - 1 for time in pledge_times(self.pending_pledges())])

    def twin(self):
        other = Ledger(self.at_house, self.many_houses)
        other.words = dict(self.words)
        other.pledges = dict(self.pledges)
        other.unended = dict(self.unended)
        other.stamps = dict(self.stamps)
        other.lows = dict(self.lows)
        other.greatest_stamp = self.greatest_stamp
        other.greatest_serial = self.greatest_serial
        other.greatest_mark = self.greatest_mark
        other.worths = self.worths.twin()
        other.moved = {key: list(self.moved[key]) for key in self.moved}
        other.forms = list(self.forms)
        return other
