"""The driver's world: a true time, houses and their clocks, dealings, and letters that lie."""

from stampedwait.clocks import DRIFT
from stampedwait.copies import LEASE
from stampedwait.deals import ASKED, OPEN, Deal
from stampedwait.deeds import do_deed
from stampedwait.errors import Bare, NoCopy, NoDealing, NoDeed, NoHold, NoLetter, NoNumber, NoPace, NoWorth, Off
from stampedwait.hands import EVEN_HAND, begun_anew, counted_on, is_pace, with_pace
from stampedwait.holds import HELD, WRITE, is_way
from stampedwait.houses import House
from stampedwait.ledgers import OFF, SURE, first_house
from stampedwait.owned import changed_at
from stampedwait.pledges import FORM_ITSELF
from stampedwait.shelves import is_worth, refuse_no_key
from stampedwait.tellings import rows_as_told
from stampedwait.times import WHOLE, is_from_to, is_whole, refuse_no_count

MOST_HOUSES = 4
MOST_TICKS = 10000
# what a stamp's time may be above all clocks' highs, and what a low must be above it
WAIT_BESIDE = 2


class World:
    """Has the true time, which no house knows, and does what its driver says in whatever order."""

    def __init__(self, houses, *, copies=3, drift=DRIFT, lease=LEASE, wait=WHOLE):
        if not is_from_to(houses, 1, MOST_HOUSES):
            raise NoNumber("no number of houses")
        self.stock = [House(number, houses, copies=copies, drift=drift, lease=lease, wait=wait)
                      for number in range(houses)]
        # the hands of each house's clocks: no row is changed, another one is put in its stead
        self.hands = [[EVEN_HAND] * copies] * houses
        self.true_time = 0
        self.most_above = 0
        self.most_below = 0
        self.deals = []
        self.lying = {}
        self.sent = 0
        self.rows_told = []
        self.playings = []
        # a world in which rows of deeds are tried, made when the first one is played
        self.trial = None
        for house in self.stock:
            house.crew.set_all(0, 0)
        self.note_bounds()

    def house_numbered(self, house):
        """The house itself, not a twin: for the package, never told."""
        if not is_from_to(house, 0, len(self.stock) - 1):
            raise NoCopy(house)
        return self.stock[house]

    def refuse_no_house(self, house):
        self.house_numbered(house)

    def need_head(self, house):
        self.house_numbered(house).need_head()

    def change_hand(self, house, copy, hand):
        self.hands = changed_at(self.hands, house, changed_at(self.hands[house], copy, hand))

    def true_now(self):
        return self.true_time

    def told_wait(self):
        return self.most_above + self.most_below + WAIT_BESIDE

    def note_bounds(self):
        for house in self.stock:
            for low, high in house.crew.spans:
                if high - self.true_time > self.most_above:
                    self.most_above = high - self.true_time
                if self.true_time - low > self.most_below:
                    self.most_below = self.true_time - low

    def tick(self, many=1):
        if not is_from_to(many, 1, MOST_TICKS):
            raise NoNumber("no number of ticks")
        self.go_on(many)

    def go_on(self, many):
        self.true_time += many
        counted = [[counted_on(hand, many) for hand in hands] for hands in self.hands]
        self.hands = [[hand for whole, hand in row] for row in counted]
        for house, row in zip(self.stock, counted):
            house.crew.tick_all([whole for whole, hand in row])
        self.note_bounds()

    def set_clock(self, house, copy, *, before=0, behind=0):
        self.house_numbered(house).crew.refuse_no_copy(copy)
        refuse_no_count(before)
        refuse_no_count(behind)
        self.stock[house].set_clock(copy, self.true_time - before, self.true_time + behind)
        self.change_hand(house, copy, begun_anew(self.hands[house][copy]))
        self.note_bounds()

    def pace(self, house, copy, pace):
        crew = self.house_numbered(house).crew
        crew.refuse_no_copy(copy)
        if not is_pace(pace, crew.most_drift):
            raise NoPace("no pace within the drift")
        self.change_hand(house, copy, with_pace(self.hands[house][copy], pace))

    def stop(self, house, copy):
        self.house_numbered(house).stop(copy)

    def back(self, house, copy):
        self.house_numbered(house).back(copy)

    def choose(self, house, copy):
        return self.house_numbered(house).choose(copy)

    def renew(self, house):
        self.house_numbered(house).renew()

    def catch_up(self, house, copy):
        self.house_numbered(house).catch_up(copy)

    def mark(self, house):
        return self.house_numbered(house).mark()

    def let_go(self, house, time):
        self.house_numbered(house).let_go(time)

    def question(self, house):
        return self.send(self.house_numbered(house).questions())

    def seen_house(self, house):
        return self.house_numbered(house).twin()

    def houses(self):
        return len(self.stock)

    def high_of(self, house):
        """The time that is read now by a house."""
        return self.house_numbered(house).bounds()[1]

    def house_with(self, key):
        refuse_no_key(key)
        number = first_house(key, len(self.stock))
        while not self.stock[number].is_asked_here(key):
            number = self.stock[number].noted.house_of(key)
        return number

    def deal_of(self, dealing):
        if not is_from_to(dealing, 0, len(self.deals) - 1):
            raise NoDealing(dealing)
        return self.deals[dealing]

    def home_of(self, dealing):
        return self.stock[self.deal_of(dealing).home()]

    def begin(self):
        return self.begin_more(None)

    def begin_more(self, more):
        return self.begin_aged(len(self.deals), more)

    def begin_aged(self, age, more):
        self.deals.append(Deal(age, self.true_time, more))
        return len(self.deals) - 1

    def again(self, dealing):
        deal = self.deal_of(dealing)
        if self.word(dealing) != OFF or deal.more is not None:
            raise NoDealing(dealing)
        return self.begin_aged(deal.age, None)

    def age_of(self, dealing):
        return self.deal_of(dealing).age

    def word(self, dealing):
        deal = self.deal_of(dealing)
        if deal.state == ASKED and self.home_of(dealing).noted.word(dealing) == OFF:
            return OFF
        return deal.state

    def need_word(self, dealing, words):
        if self.word(dealing) not in words:
            raise Off(dealing)

    def need_standing(self, dealing, house):
        """NoHead, or Off for good where it lost what it held at a house."""
        self.need_head(house)
        reigns = self.deals[dealing].reigns
        if house in reigns and self.stock[house].has_lost(dealing, reigns[house]):
            self.put_off(dealing)
            raise Off(dealing)

    def take(self, dealing, key, mode):
        self.deal_of(dealing)
        return self.take_at(dealing, self.house_with(key), key, mode)

    def take_at(self, dealing, house, key, mode, *, coming=False):
        deal = self.deal_of(dealing)
        asked = self.house_numbered(house)
        if not isinstance(key, str) or key != FORM_ITSELF:
            refuse_no_key(key)
        if not is_way(mode):
            raise NoHold(key)
        self.need_word(dealing, (OPEN,))
        self.need_standing(dealing, house)
        word, off = asked.hold(dealing, key, mode, reign=asked.reign(), age=deal.age, coming=coming)
        if word == HELD:
            self.deals[dealing] = deal.with_hold(house, asked.reign())
        return word

    def how_held(self, dealing, house, key):
        """The way in which it holds a key at a house, or None."""
        return self.stock[house].key_holds.way_of(dealing, key)

    def house_held_at(self, dealing, key):
        self.need_word(dealing, (OPEN,))
        for house in self.deals[dealing].all_houses():
            self.need_standing(dealing, house)
            if self.how_held(dealing, house, key) is not None:
                return house
        raise NoHold(key)

    def read(self, dealing, key):
        deal = self.deal_of(dealing)
        refuse_no_key(key)
        house = self.house_held_at(dealing, key)
        if key in deal.wrote:
            return deal.wrote[key]
        return self.read_in_house(dealing, house, key)

    def read_in_house(self, dealing, house, key):
        deal = self.deal_of(dealing)
        asked = self.house_numbered(house)
        refuse_no_key(key)
        self.need_word(dealing, (OPEN,))
        self.need_standing(dealing, house)
        worth = asked.newest(dealing, key)
        self.deals[dealing] = deal.with_read(house, key, worth)
        return worth

    def write(self, dealing, key, worth):
        deal = self.deal_of(dealing)
        refuse_no_key(key)
        if not is_worth(worth):
            raise NoWorth("no worth")
        house = self.house_held_at(dealing, key)
        if self.how_held(dealing, house, key) != WRITE:
            raise NoHold(key)
        self.deals[dealing] = deal.with_write(deal.goal_of(key, house), key, worth)

    def put_in_house(self, dealing, house, key, worth):
        deal = self.deal_of(dealing)
        self.refuse_no_house(house)
        refuse_no_key(key)
        if not is_worth(worth):
            raise NoWorth("no worth")
        self.need_word(dealing, (OPEN,))
        self.deals[dealing] = deal.with_write(house, key, worth)

    def finish(self, dealing):
        deal = self.deal_of(dealing)
        self.need_word(dealing, (OPEN, ASKED))
        if not deal.reigns:
            raise Bare("it never held anything")
        self.deals[dealing] = deal.with_state(ASKED)
        self.send(deal.pledge_letters(dealing))

    def tell(self, dealing):
        deal = self.deal_of(dealing)
        self.need_word(dealing, (OPEN, ASKED, SURE))
        if deal.state == OPEN:
            raise Bare("it isn't finished")
        home = self.home_of(dealing)
        letters = home.tell(dealing)
        stamp = home.noted.stamp_of(dealing)
        if deal.state == ASKED:
            self.deals[dealing] = deal.with_state(SURE)
            self.rows_told.extend(deal.kept_rows(dealing, self.true_time, stamp))
        self.send(letters)
        return stamp

    def give_up(self, dealing):
        word = self.word(dealing)
        if word == OPEN:
            self.put_off(dealing)
            return
        if word == OFF:
            raise Off(dealing)
        self.send(self.home_of(dealing).give_up(dealing))

    def put_off(self, dealing):
        deal = self.deal_of(dealing)
        self.need_word(dealing, (OPEN,))
        self.deals[dealing] = deal.with_state(OFF)
        for house in self.stock:
            house.loosen(dealing)

    def letter_numbered(self, number):
        if not is_whole(number) or number not in self.lying:
            raise NoLetter("no letter that lies")
        return self.lying[number]

    def send(self, letters):
        """How many letters are sent: they lie, numbered on."""
        for letter in letters:
            self.lying[self.sent] = letter
            self.sent += 1
        return len(letters)

    def letters(self):
        return dict(self.lying)

    def deliver(self, number):
        letter = self.letter_numbered(number)
        return self.send(self.stock[letter[3]].take_letter(letter))

    def lose(self, number):
        self.letter_numbered(number)
        self.lying.pop(number)

    def waiting(self):
        told = {}
        for house in self.stock:
            some = house.key_holds.waiting()
            for dealing in some:
                if self.word(dealing) == OPEN:
                    told[dealing] = sorted(set(told.get(dealing, []) + some[dealing]))
        return {dealing: told[dealing] for dealing in sorted(list(told))}

    def look(self, house, key, time, *, copy=None):
        asked = self.house_numbered(house)
        if copy is not None:
            asked.crew.refuse_no_copy(copy)
        refuse_no_key(key)
        return asked.look(key, time, copy=copy)

    def rise(self, house, time, *, copy=None):
        self.house_numbered(house).rise(time, copy=copy)

    def keep_read(self, word, time, key, worth):
        self.rows_told.append((word, self.true_time, time, key, worth))

    def history(self):
        return rows_as_told(self.rows_told)

    def book(self):
        return list(self.playings)

    def play(self, deeds):
        self.playings.append("open")
        try:
            return self.play_all(deeds)
        finally:
            self.playings.append("shut")

    def play_all(self, deeds):
        if not isinstance(deeds, list):
            raise NoDeed("no list of deeds")
        # a trial by another world: where one is refused nothing was done here
        trial = self.trial_world()
        answers = [do_deed(trial, deed) for deed in deeds]
        # the trial is left with houses that are given their parts anew at its next use
        self.stock, trial.stock = trial.stock, self.stock
        self.put_rest(trial.rest())
        return answers

    def trial_world(self):
        """A world that is as this one is, to be used at once; twins have the same one."""
        if self.trial is None:
            self.trial = self.twin()
        else:
            self.trial.become(self)
        return self.trial

    def rest(self):
        """All that it keeps beside its houses and its book."""
        return (self.hands, self.true_time, self.most_above, self.most_below, self.deals, self.lying, self.sent,
                self.rows_told)

    def put_rest(self, rest):
        (self.hands, self.true_time, self.most_above, self.most_below, self.deals, self.lying, self.sent,
         self.rows_told) = rest

    def become(self, other):
        """As the other one is, but for its book; both go on by themselves."""
        for house, like in zip(self.stock, other.stock):
            house.put_parts(like.parts())
        self.put_rest(other.rest())
        self.deals = list(self.deals)
        self.lying = dict(self.lying)
        self.rows_told = list(self.rows_told)

    def twin(self):
        crew, share = self.stock[0].crew, self.stock[0].share
        other = World(len(self.stock), copies=len(crew), drift=crew.most_drift, lease=crew.lease, wait=share)
        other.become(self)
        other.trial = self.trial
        return other

    def __len__(self):
        return len(self.deals)
