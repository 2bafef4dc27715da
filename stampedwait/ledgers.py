"""What a house's book says: of each dealing, of the worths, of where keys are, and of forms."""

from stampedwait.pledges import PLEDGE, form_in, move_in, pledge_times, stamp_in, writes_in
from stampedwait.shelves import Shelf

PLEDGED = "pledged"
SURE = "sure"
DONE = "done"
OFF = "off"
MARK = "mark"
GONE = "gone"
NO_TIME = -1
# the word, the pledge's entry, the stamp and the low of a dealing of which nothing is noted
UNNOTED = (None, None, None, None)
FIRST_LETTER = 97
# of how many beginnings of one book ledgers are kept at once
MOST_PAST = 8


def first_house(key, houses):
    return (sum([ord(sign) for sign in key]) - FIRST_LETTER * len(key)) % houses


def last_up_to(rows, time, otherwise):
    """The thing of the last of some rows (time, thing) that is up to this time."""
    for begun, thing in reversed(rows):
        if begun <= time:
            return thing
    return otherwise


def shaped(worth, fields):
    """A worth by as many fields as stand ahead, noughts where it has fewer."""
    if worth is None or fields is None:
        return worth
    return (worth + (0,) * fields)[:fields]


class Ledger:
    """Notes the entries of a house's book, or of a beginning of it, one by one."""

    def __init__(self, house, houses=1):
        self.at_house = house
        self.many_houses = houses
        # of each dealing its word, its pledge's entry, its stamp and the low of its deciding
        self.notes = {}
        # the entries of pledges that are pledged or sure, by their dealings
        self.unended = {}
        # whether others have these two dicts, too
        self.lent = False
        self.greatest_stamp = None
        self.greatest_serial = 0
        self.greatest_mark = None
        self.worths = Shelf()
        # these two are never changed, others are put in their stead: so they are lent as they are
        self.moved = {}
        self.forms = []

    def make_own(self):
        """Ahead of a change."""
        if self.lent:
            self.notes = dict(self.notes)
            self.unended = dict(self.unended)
            self.lent = False

    def note(self, entry):
        self.make_own()
        word = entry[0]
        if word == PLEDGE:
            self.note_pledge(entry)
        elif word == SURE:
            self.note_sure(entry)
        elif word == DONE:
            self.note_done(entry)
        elif word == OFF:
            self.note_end(entry[1], OFF)
        elif word == MARK:
            self.note_mark(entry[1])
        elif word == GONE:
            self.worths.let_go(entry[1])

    def noted_of(self, dealing):
        return self.notes.get(dealing, UNNOTED)

    def note_pledge(self, entry):
        dealing = entry[1]
        word, pledge, stamp, low = self.noted_of(dealing)
        self.notes[dealing] = (PLEDGED, entry, stamp, low)
        self.unended[dealing] = entry
        self.note_stamp(stamp_in(entry))

    def note_sure(self, entry):
        word, dealing, stamp, low = entry
        self.notes[dealing] = (SURE, self.pledge_of(dealing), stamp, low)
        self.note_stamp(stamp)

    def note_done(self, entry):
        word, dealing, stamp = entry
        pledge = self.pledge_of(dealing)
        self.notes[dealing] = (DONE, pledge, stamp, self.low_of(dealing))
        self.unended.pop(dealing, None)
        self.note_stamp(stamp)
        for key, worth in writes_in(pledge):
            self.worths.put(key, stamp, worth)
        move = move_in(pledge)
        if move is not None:
            key, to = move
            self.moved = {**self.moved, key: self.moved.get(key, []) + [(stamp[0], to)]}
        form = form_in(pledge)
        if form is not None:
            # sorted by time alone, so that of like times the one done last stays last
            self.forms = sorted(self.forms + [form], key=lambda row: row[0])

    def note_end(self, dealing, word):
        was, pledge, stamp, low = self.noted_of(dealing)
        self.notes[dealing] = (word, pledge, stamp, low)
        self.unended.pop(dealing, None)

    def note_stamp(self, stamp):
        if self.greatest_stamp is None or stamp > self.greatest_stamp:
            self.greatest_stamp = stamp
        self.greatest_serial = max(self.greatest_serial, stamp[1])

    def note_mark(self, time):
        if self.greatest_mark is None or time > self.greatest_mark:
            self.greatest_mark = time

    def word(self, dealing):
        return self.notes.get(dealing, UNNOTED)[0]

    def pledge_of(self, dealing):
        return self.notes.get(dealing, UNNOTED)[1]

    def stamp_of(self, dealing):
        return self.notes.get(dealing, UNNOTED)[2]

    def low_of(self, dealing):
        return self.notes.get(dealing, UNNOTED)[3]

    def pending(self):
        return sorted(list(self.unended))

    def pending_pledges(self):
        if not self.unended:
            return []
        return [self.unended[dealing] for dealing in self.pending()]

    def last_stamp(self):
        if self.greatest_stamp is None:
            return (NO_TIME, 0, self.at_house)
        return self.greatest_stamp

    def last_serial(self):
        return self.greatest_serial

    def last_mark(self):
        return NO_TIME if self.greatest_mark is None else self.greatest_mark

    def shelf(self):
        return self.worths.twin()

    def newest(self, key):
        return self.worths.newest(key)

    def gone_to(self):
        return self.worths.gone_to()

    def refuse_gone(self, time):
        self.worths.refuse_gone(time)

    def house_of(self, key):
        rows = self.moved.get(key)
        return rows[-1][1] if rows else first_house(key, self.many_houses)

    def house_at(self, key, time):
        house = last_up_to(self.moved.get(key, []), time, None)
        return first_house(key, self.many_houses) if house is None else house

    def fields_at(self, time):
        return last_up_to(self.forms, time, None)

    def worth_at(self, key, time):
        return shaped(self.worths.at(key, time), self.fields_at(time))

    def safe(self):
        most = max(self.last_mark(), self.last_stamp()[0] - 1)
        if not self.unended:
            return most
        return min(most, min(pledge_times(self.pending_pledges())) - 1)

    def parts(self):
        """All that it keeps, for another one or to be put back: lent, so that a change leaves it as it is."""
        self.lent = True
        return (self.notes, self.unended, self.greatest_stamp, self.greatest_serial, self.greatest_mark,
                self.worths.parts(), self.moved, self.forms)

    def put_parts(self, parts):
        (self.notes, self.unended, self.greatest_stamp, self.greatest_serial, self.greatest_mark,
         worths, self.moved, self.forms) = parts
        self.worths.put_parts(worths)
        self.lent = True

    def twin(self):
        other = Ledger(self.at_house, self.many_houses)
        other.put_parts(self.parts())
        return other


def past_ledger(past, house, houses, book):
    """The ledger of a beginning of a book; it is kept in past, by its length, for the next time."""
    many = len(book)
    if many not in past:
        if len(past) >= MOST_PAST:
            past.clear()
        ledger = Ledger(house, houses)
        for entry in book:
            ledger.note(entry)
        past[many] = ledger
    return past[many]
