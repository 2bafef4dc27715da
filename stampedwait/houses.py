"""Houses: what a head does with holds, letters, stamps and reads."""

from stampedwait.clocks import DRIFT
from stampedwait.copies import LEASE, NOTHING_PROMISED, Copies
from stampedwait.errors import Early, Elsewhere, NoHead, NoHold, NoLetter, NoShare, Off, Sure, Waits
from stampedwait.holds import Holds, is_enough
from stampedwait.ledgers import DONE, GONE, MARK, OFF, PLEDGED, SURE, Ledger, past_ledger
from stampedwait.letters import DONE_LETTER, NO_LETTER, OFF_LETTER, PLEDGE_LETTER, WHAT_LETTER, YES_LETTER
from stampedwait.letters import is_letter_to, letters_to
from stampedwait.pledges import FORM_ITSELF, PLEDGE, dealing_in, form_in, form_times, holds_wanted
from stampedwait.pledges import home_in, houses_in, move_in, pledge_times, refuse_up_to, stamp_in
from stampedwait.shelves import refuse_no_time
from stampedwait.times import WHOLE, is_share


class House:
    """What a house does its head does, by its own clock; what it knows stands in the book."""

    def __init__(self, number, houses=1, *, copies=3, drift=DRIFT, lease=LEASE, wait=WHOLE):
        if not is_share(wait):
            raise NoShare("no share to wait")
        self.own_number = number
        self.many_houses = houses
        self.share = wait
        self.crew = Copies(copies, drift=drift, lease=lease)
        self.noted = Ledger(number, houses)
        self.key_holds = Holds()
        # of each dealing the stamps of those that said yes: never changed, but others put in their stead
        self.votes = {}
        self.floor_now = NOTHING_PROMISED
        # ledgers of beginnings of the book, by their lengths: kept for later reads, right for this book alone
        self.past = {}

    def number(self):
        return self.own_number

    def floor(self):
        return self.floor_now

    def reign(self):
        return self.crew.reigns

    def head(self):
        return self.crew.head()

    def bounds(self):
        return self.crew.spans[self.need_head()]

    def copies(self):
        return self.crew.twin()

    def ledger(self):
        return self.noted.twin()

    def holds(self):
        return self.key_holds.twin()

    def need_head(self):
        """The head's number, or NoHead."""
        head = self.crew.head()
        if head is None:
            raise NoHead(self.own_number)
        return head

    def need_writing(self):
        if not self.crew.can_write():
            raise NoHead(self.own_number)

    def set_clock(self, copy, low, high):
        self.crew.set_clock(copy, low, high)

    def tick_clock(self, copy, many=1):
        self.crew.tick_clock(copy, many)

    def stop(self, copy):
        self.crew.stop(copy)

    def back(self, copy):
        self.crew.back(copy)

    def renew(self):
        try:
            self.crew.renew()
        except NoHead:
            raise NoHead(self.own_number) from None

    def catch_up(self, copy):
        try:
            self.crew.catch_up(copy)
        except NoHead:
            raise NoHead(self.own_number) from None

    def choose(self, copy):
        try:
            floor = self.crew.choose(copy)
        except NoHead:
            raise NoHead(self.own_number) from None
        self.begin_reign(floor)
        return floor

    def begin_reign(self, floor):
        self.floor_now = floor
        self.votes = {}
        self.key_holds = Holds()
        for pledge in self.noted.pending_pledges():
            self.key_holds.keep(dealing_in(pledge), holds_wanted(pledge))

    def hold(self, dealing, key, mode, *, reign, age=None, coming=False):
        self.need_head()
        if reign != self.crew.reigns or self.noted.word(dealing) is not None:
            raise Off(dealing)
        if not coming and not self.is_asked_here(key):
            raise Elsewhere(key, self.noted.house_of(key))
        return self.key_holds.ask(dealing, key, mode, age=age)

    def is_asked_here(self, key):
        if key == FORM_ITSELF or self.noted.house_of(key) == self.own_number:
            return True
        return (key, self.own_number) in [move_in(pledge) for pledge in self.noted.pending_pledges()]

    def newest(self, dealing, key):
        self.need_head()
        if self.key_holds.way_of(dealing, key) is None:
            raise NoHold(key)
        return self.noted.newest(key)

    def drop(self, dealing):
        self.need_head()
        self.loosen(dealing)

    def loosen(self, dealing):
        # without a head, too: who is off for good must not hold here when the head is back
        if self.noted.word(dealing) in (None, OFF):
            self.key_holds.free(dealing)

    def has_lost(self, dealing, reign):
        """Whether what it held by this reign is gone: it was called off, or a new reign began."""
        return reign != self.crew.reigns or self.key_holds.is_off(dealing)

    def enter(self, entry):
        self.crew.write(entry)
        self.noted.note(entry)
        # twins and trials have the book without this entry, and may write another one
        self.past = dict(self.past)

    def end(self, entry):
        self.enter(entry)
        self.key_holds.free(entry[1])

    def put_off(self, dealing):
        """Off, where it isn't so already and still can be."""
        if self.noted.word(dealing) in (None, PLEDGED):
            self.end((OFF, dealing))

    def receive(self, thing):
        if not is_letter_to(thing, self.own_number):
            raise NoLetter("no letter to this house")
        return self.take_letter(thing)

    def take_letter(self, letter):
        """What is known to be a letter to this house."""
        self.need_writing()
        word, dealing, sender, to, body = letter
        if word == PLEDGE_LETTER:
            return self.take_pledge(dealing, body)
        if word == YES_LETTER:
            return self.take_yes(dealing, sender, body)
        if word == NO_LETTER:
            return self.take_no(dealing, sender)
        if word == WHAT_LETTER:
            return self.take_what(dealing, sender)
        if word == OFF_LETTER:
            self.put_off(dealing)
        elif self.noted.word(dealing) == PLEDGED:
            self.end((DONE, dealing, body))
        return []

    def take_pledge(self, dealing, body):
        if self.noted.word(dealing) is None:
            self.try_pledge(dealing, body)
        word = self.noted.word(dealing)
        if word == PLEDGED:
            return self.answer_home(YES_LETTER, dealing, body, stamp_in(self.noted.pledge_of(dealing)))
        if word == OFF:
            return self.answer_home(NO_LETTER, dealing, body, None)
        return []

    def answer_home(self, word, dealing, body, stamp):
        home = min(body[0])
        letter = (word, dealing, self.own_number, home, stamp)
        # letters go between houses alone: to itself it comes at once
        return self.take_letter(letter) if home == self.own_number else [letter]

    def try_pledge(self, dealing, body):
        houses, reign, reads, writes, more = body
        pledge = (PLEDGE, dealing, min(houses), houses, self.next_stamp(), reads, writes, more)
        if reign != self.crew.reigns or not self.can_be_pledged(pledge):
            self.end((OFF, dealing))
            return
        refuse_up_to(form_times(self.noted.pending_pledges()), stamp_in(pledge)[0])
        self.enter(pledge)
        self.key_holds.pledge(dealing)

    def next_stamp(self):
        # above the floor: what was read or promised at it stays as it was
        time = max(self.bounds()[0], self.noted.last_stamp()[0], self.floor_now + 1)
        return (time, self.noted.last_serial() + 1, self.own_number)

    def can_be_pledged(self, pledge):
        dealing = dealing_in(pledge)
        if self.key_holds.is_off(dealing):
            return False
        some = holds_wanted(pledge)
        if not all([is_enough(self.key_holds.way_of(dealing, key), some[key]) for key in some]):
            return False
        form = form_in(pledge)
        return form is None or form[0] > max(self.bounds()[1], self.floor_now, self.noted.last_stamp()[0])

    def take_yes(self, dealing, sender, stamp):
        votes = {**self.votes.get(dealing, {}), sender: stamp}
        self.votes = {**self.votes, dealing: votes}
        if self.noted.word(dealing) != PLEDGED:
            return []
        pledge = self.noted.pledge_of(dealing)
        houses = houses_in(pledge)
        if home_in(pledge) != self.own_number or not all([house in votes for house in houses]):
            return []
        return self.decide(pledge, [votes[house] for house in houses])

    def decide(self, pledge, stamps):
        low, high = self.bounds()
        time = max([high] + [stamp[0] for stamp in stamps])
        serial = max([self.noted.last_serial()] + [stamp[1] for stamp in stamps]) + 1
        form = form_in(pledge)
        if form is not None and time >= form[0]:
            return self.take_no(dealing_in(pledge), self.own_number)
        self.enter((SURE, dealing_in(pledge), (time, serial, self.own_number), low))
        return []

    def take_no(self, dealing, sender):
        pledge = self.noted.pledge_of(dealing)
        if pledge is not None and home_in(pledge) != self.own_number:
            # only its home decides of what is pledged
            return []
        if self.noted.word(dealing) in (SURE, DONE):
            return []
        self.put_off(dealing)
        return self.off_letters(dealing, [sender])

    def off_letters(self, dealing, otherwise):
        """To all other houses of its pledge; otherwise to these, where it never was pledged."""
        pledge = self.noted.pledge_of(dealing)
        houses = otherwise if pledge is None else houses_in(pledge)
        return letters_to(OFF_LETTER, dealing, self.own_number, houses, None)

    def take_what(self, dealing, sender):
        if self.noted.word(dealing) is None:
            self.put_off(dealing)
        word = self.noted.word(dealing)
        if word == DONE:
            return [(DONE_LETTER, dealing, self.own_number, sender, self.noted.stamp_of(dealing))]
        if word == OFF:
            return [(OFF_LETTER, dealing, self.own_number, sender, None)]
        return []

    def tell(self, dealing):
        self.need_head()
        word = self.noted.word(dealing)
        if word == OFF:
            raise Off(dealing)
        stamp = self.noted.stamp_of(dealing)
        if stamp is None:
            raise Waits(None)
        if word == SURE:
            if not self.is_waited_out(dealing):
                raise Waits(stamp[0])
            self.need_writing()
            self.end((DONE, dealing, stamp))
        houses = houses_in(self.noted.pledge_of(dealing))
        return letters_to(DONE_LETTER, dealing, self.own_number, houses, stamp)

    def is_waited_out(self, dealing):
        top, bottom = self.share
        low = self.noted.low_of(dealing)
        whole = self.noted.stamp_of(dealing)[0] - low
        # both sides times the bottom: no part of a tick is lost
        return (self.bounds()[0] - low) * bottom > whole * top

    def give_up(self, dealing):
        self.need_head()
        word = self.noted.word(dealing)
        if word in (SURE, DONE):
            raise Sure(self.noted.stamp_of(dealing))
        if word != OFF:
            self.need_writing()
            self.put_off(dealing)
        return self.off_letters(dealing, [])

    def questions(self):
        self.need_head()
        return [(WHAT_LETTER, dealing_in(pledge), self.own_number, home_in(pledge), None)
                for pledge in self.noted.pending_pledges() if home_in(pledge) != self.own_number]

    def refuse_no_reading(self, time, copy):
        # what is no copy goes ahead of all else, also of what is no time
        if copy is not None:
            self.crew.refuse_no_copy(copy)
        refuse_no_time(time)

    def is_by_head(self, copy):
        """Whether the head reads where this copy is told (None: no copy), and not another one that is up."""
        if copy is None or copy == self.crew.head():
            self.need_head()
            return True
        if not self.crew.ups[copy]:
            raise NoHead(self.own_number)
        return False

    def refuse_unreadable(self, time):
        """Early, Gone or Waits of a time at which the head can't read."""
        if time > self.bounds()[1]:
            raise Early(time)
        self.noted.refuse_gone(time)
        pledges = self.noted.pending_pledges()
        refuse_up_to(pledge_times(pledges) + form_times(pledges), time)

    def ledger_of(self, copy):
        """The ledger of a copy's own book: only to be asked, never told or changed."""
        if not self.crew.is_behind(copy):
            return self.noted
        return past_ledger(self.past, self.own_number, self.many_houses, self.crew.book(copy))

    def look(self, key, time, *, copy=None):
        self.refuse_no_reading(time, copy)
        if self.is_by_head(copy):
            ledger = self.noted
            self.refuse_unreadable(time)
        else:
            ledger = self.ledger_of(copy)
            safe = ledger.safe()
            if time > safe:
                raise Waits(safe)
            ledger.refuse_gone(time)
        house = ledger.house_at(key, time)
        if house != self.own_number:
            raise Elsewhere(key, house)
        return ledger.worth_at(key, time)

    def read(self, key, time, *, copy=None):
        worth = self.look(key, time, copy=copy)
        self.rise(time, copy=copy)
        return worth

    def rise(self, time, *, copy=None):
        self.refuse_no_reading(time, copy)
        if self.is_by_head(copy):
            self.rise_to(time)

    def rise_to(self, time):
        self.floor_now = max(self.floor_now, time)

    def mark(self):
        low = self.bounds()[0]
        time = min([low] + [other - 1 for other in pledge_times(self.noted.pending_pledges())])
        if time > self.noted.last_mark():
            self.need_writing()
            self.enter((MARK, time))
            self.rise_to(time)
        return time

    def let_go(self, time):
        refuse_no_time(time)
        self.need_head()
        gone = self.noted.gone_to()
        if gone is None or time >= gone:
            self.refuse_unreadable(time)
        self.need_writing()
        self.enter((GONE, time))
        self.rise_to(time)

    def parts(self):
        """All that it keeps, for another one or to be put back: a change leaves it as it is."""
        return (self.crew.parts(), self.noted.parts(), self.key_holds.parts(), self.votes, self.floor_now, self.past)

    def put_parts(self, parts):
        crew, noted, key_holds, self.votes, self.floor_now, self.past = parts
        self.crew.put_parts(crew)
        self.noted.put_parts(noted)
        self.key_holds.put_parts(key_holds)

    def twin(self):
        other = House(self.own_number, self.many_houses, copies=len(self.crew), drift=self.crew.most_drift,
                      lease=self.crew.lease, wait=self.share)
        other.put_parts(self.parts())
        return other
