"""The driver's world: a true time, houses and their clocks, dealings, and letters that lie."""

from stampedwait.clocks import DRIFT
from stampedwait.copies import LEASE
from stampedwait.deals import ASKED, OPEN, Deal
from stampedwait.deeds import do_deed
from stampedwait.errors import Bare, NoCopy, NoDealing, NoDeed, NoHold, NoLetter, NoNumber, NoPace, NoWorth, Off
from stampedwait.hands import Hand, is_pace
from stampedwait.holds import HELD, READ, WRITE
from stampedwait.houses import House
from stampedwait.ledgers import OFF, SURE, first_house
from stampedwait.owned import owned
from stampedwait.pledges import FORM_ITSELF
from stampedwait.shelves import is_worth, refuse_no_key
from stampedwait.times import WHOLE, is_from_to, is_whole, refuse_no_count

MOST_HOUSES = 4
MOST_TICKS = 10000
# what a stamp's time may be above all clocks' highs, and what a low must be above it
WAIT_BESIDE = 2


def is_way(thing):
    return isinstance(thing, str) and thing in (READ, WRITE)


class World:
    """Has the true time, which no house knows, and does what its driver says in whatever order."""

    def __init__(self, houses, *, copies=3, drift=DRIFT, lease=LEASE, wait=WHOLE):
        if not is_from_to(houses, 1, MOST_HOUSES):
            raise NoNumber("no number of houses")
        self.stock = [House(number, houses, copies=copies, drift=drift, lease=lease, wait=wait)
                      for number in range(houses)]
        self.hands = [[Hand() for copy in range(copies)] for number in range(houses)]
        self.most_drift = drift
        self.true_time = 0
        self.most_above = 0
        self.most_below = 0
        self.deals = []
        self.lying = {}
        self.sent = 0
        self.rows_told = []
        self.playings = []
        for house in self.stock:
            for copy in range(copies):
                house.set_clock(copy, 0, 0)
        self.note_bounds()

    def house_numbered(self, house):
        """The house itself, not a twin: for the package, never told."""
        if not is_from_to(house, 0, len(self.stock) - 1):
            raise NoCopy(house)
        return self.stock[house]

    def refuse_no_house(self, house):
        self.house_numbered(house)

    def need_head(self, house):
        self.house_numbered(house).need_head()

    def hand_of(self, house, copy):
        self.house_numbered(house).crew.refuse_no_copy(copy)
        return self.hands[house][copy]

    def true_now(self):
        return self.true_time

    def told_wait(self):
        return self.most_above + self.most_below + WAIT_BESIDE

    def note_bounds(self):
        for house in self.stock:
            for low, high in house.crew.all_bounds():
                self.most_above = max(self.most_above, high - self.true_time)
                self.most_below = max(self.most_below, self.true_time - low)

    def tick(self, many=1):
        if not is_from_to(many, 1, MOST_TICKS):
            raise NoNumber("no number of ticks")
        self.go_on(many)

    def go_on(self, many):
        self.true_time += many
        for house, hands in zip(self.stock, self.hands):
            for copy, hand in enumerate(hands):
                house.tick_clock(copy, hand.count_on(many))
        self.note_bounds()

    def set_clock(self, house, copy, *, before=0, behind=0):
        hand = self.hand_of(house, copy)
        refuse_no_count(before)
        refuse_no_count(behind)
        self.stock[house].set_clock(copy, self.true_time - before, self.true_time + behind)
        hand.begin_anew()
        self.note_bounds()

    def pace(self, house, copy, pace):
        hand = self.hand_of(house, copy)
        if not is_pace(pace, self.most_drift):
            raise NoPace("no pace within the drift")
        hand.change(pace)

    def stop(self, house, copy):
        self.house_numbered(house).stop(copy)

    def back(self, house, copy):
        self.house_numbered(house).back(copy)

    def choose(self, house, copy):
        return self.house_numbered(house).choose(copy)

    def renew(self, house):
        self.house_numbered(house).renew()

    def catch_up(self, house, copy):
        self.house_numbered(house).catch_up(copy)

    def mark(self, house):
        return self.house_numbered(house).mark()

    def let_go(self, house, time):
        self.house_numbered(house).let_go(time)

    def question(self, house):
        return self.send(self.house_numbered(house).questions())

    def seen_house(self, house):
        return self.house_numbered(house).twin()

    def houses(self):
        return len(self.stock)

    def high_of(self, house):
        """The time that is read now by a house."""
        return self.house_numbered(house).bounds()[1]

    def house_with(self, key):
        refuse_no_key(key)
        number = first_house(key, len(self.stock))
        while not self.stock[number].is_asked_here(key):
            number = self.stock[number].noted.house_of(key)
        return number

    def deal_of(self, dealing):
        if not is_from_to(dealing, 0, len(self.deals) - 1):
            raise NoDealing(dealing)
        return self.deals[dealing]

    def home_of(self, dealing):
        return self.stock[self.deal_of(dealing).home()]

    def begin(self):
        return self.begin_more(None)

    def begin_more(self, more):
        return self.begin_aged(len(self.deals), more)

    def begin_aged(self, age, more):
        self.deals.append(Deal(age, self.true_time, more))
        return len(self.deals) - 1

    def again(self, dealing):
        deal = self.deal_of(dealing)
        if self.word(dealing) != OFF or deal.more is not None:
            raise NoDealing(dealing)
        return self.begin_aged(deal.age, None)

    def age_of(self, dealing):
        return self.deal_of(dealing).age

    def word(self, dealing):
        deal = self.deal_of(dealing)
        if deal.state == ASKED and self.home_of(dealing).noted.word(dealing) == OFF:
            return OFF
        return deal.state

    def need_word(self, dealing, words):
        if self.word(dealing) not in words:
            raise Off(dealing)

    def need_standing(self, dealing, house):
        """NoHead, or Off for good where it lost what it held at a house."""
        self.need_head(house)
        reigns = self.deals[dealing].reigns
        if house in reigns and self.stock[house].has_lost(dealing, reigns[house]):
            self.put_off(dealing)
            raise Off(dealing)

    def take(self, dealing, key, mode):
        self.deal_of(dealing)
        return self.take_at(dealing, self.house_with(key), key, mode)

    def take_at(self, dealing, house, key, mode, *, coming=False):
        deal = self.deal_of(dealing)
        asked = self.house_numbered(house)
        if not isinstance(key, str) or key != FORM_ITSELF:
            refuse_no_key(key)
        if not is_way(mode):
            raise NoHold(key)
        self.need_word(dealing, (OPEN,))
        self.need_standing(dealing, house)
        word, off = asked.hold(dealing, key, mode, reign=asked.reign(), age=deal.age, coming=coming)
        if word == HELD:
            deal.keep_hold(house, asked.reign())
        return word

    def how_held(self, dealing, house, key):
        """The way in which it holds a key at a house, or None."""
        return self.stock[house].key_holds.of(dealing).get(key)

    def house_held_at(self, dealing, key):
        self.need_word(dealing, (OPEN,))
        for house in self.deals[dealing].all_houses():
            self.need_standing(dealing, house)
            if self.how_held(dealing, house, key) is not None:
                return house
        raise NoHold(key)

    def read(self, dealing, key):
        deal = self.deal_of(dealing)
        refuse_no_key(key)
        house = self.house_held_at(dealing, key)
        if key in deal.wrote:
            return deal.wrote[key]
        return self.read_in_house(dealing, house, key)

    def read_in_house(self, dealing, house, key):
        deal = self.deal_of(dealing)
        asked = self.house_numbered(house)
        refuse_no_key(key)
        self.need_word(dealing, (OPEN,))
        self.need_standing(dealing, house)
        worth = asked.newest(dealing, key)
        deal.keep_read(house, key, worth)
        return worth

    def write(self, dealing, key, worth):
        deal = self.deal_of(dealing)
        refuse_no_key(key)
        if not is_worth(worth):
            raise NoWorth("no worth")
        house = self.house_held_at(dealing, key)
        if self.how_held(dealing, house, key) != WRITE:
            raise NoHold(key)
        deal.keep_write(deal.goal_of(key, house), key, worth)

    def put_in_house(self, dealing, house, key, worth):
        deal = self.deal_of(dealing)
        self.refuse_no_house(house)
        refuse_no_key(key)
        if not is_worth(worth):
            raise NoWorth("no worth")
        self.need_word(dealing, (OPEN,))
        deal.keep_write(house, key, worth)

    def finish(self, dealing):
        deal = self.deal_of(dealing)
        self.need_word(dealing, (OPEN, ASKED))
        if not deal.reigns:
            raise Bare("it never held anything")
        deal.state = ASKED
        self.send(deal.pledge_letters(dealing))

    def tell(self, dealing):
        deal = self.deal_of(dealing)
        self.need_word(dealing, (OPEN, ASKED, SURE))
        if deal.state == OPEN:
            raise Bare("it isn't finished")
        home = self.home_of(dealing)
        letters = home.tell(dealing)
        stamp = home.noted.stamp_of(dealing)
        if deal.state == ASKED:
            deal.state = SURE
            self.rows_told.extend(deal.told_rows(dealing, self.true_time, stamp))
        self.send(letters)
        return stamp

    def give_up(self, dealing):
        word = self.word(dealing)
        if word == OPEN:
            self.put_off(dealing)
            return
        if word == OFF:
            raise Off(dealing)
        self.send(self.home_of(dealing).give_up(dealing))

    def put_off(self, dealing):
        deal = self.deal_of(dealing)
        self.need_word(dealing, (OPEN,))
        deal.state = OFF
        for house in self.stock:
            house.loosen(dealing)

    def letter_numbered(self, number):
        if not is_whole(number) or number not in self.lying:
            raise NoLetter("no letter that lies")
        return self.lying[number]

    def send(self, letters):
        """How many letters are sent: they lie, numbered on."""
        for letter in letters:
            self.lying[self.sent] = letter
            self.sent += 1
        return len(letters)

    def letters(self):
        return dict(self.lying)

    def deliver(self, number):
        letter = self.letter_numbered(number)
        return self.send(self.stock[letter[3]].receive(letter))

    def lose(self, number):
        self.letter_numbered(number)
        self.lying.pop(number)

    def waiting(self):
        told = {}
        for house in self.stock:
            some = house.key_holds.waiting()
            for dealing in some:
                if self.word(dealing) == OPEN:
                    told[dealing] = sorted(set(told.get(dealing, []) + some[dealing]))
        return {dealing: told[dealing] for dealing in sorted(list(told))}

    def look(self, house, key, time, *, copy=None):
        asked = self.house_numbered(house)
        if copy is not None:
            asked.crew.refuse_no_copy(copy)
        refuse_no_key(key)
        return asked.look(key, time, copy=copy)

    def rise(self, house, time, *, copy=None):
        self.house_numbered(house).rise(time, copy=copy)

    def keep_read(self, word, time, key, worth):
        self.rows_told.append((word, self.true_time, time, key, worth))

    def history(self):
        return owned(self.rows_told)

    def book(self):
        return list(self.playings)

    def play(self, deeds):
        self.playings.append("open")
        try:
            return self.play_all(deeds)
        finally:
            self.playings.append("shut")

    def play_all(self, deeds):
        if not isinstance(deeds, list):
            raise NoDeed("no list of deeds")
        # a trial by a twin: where one is refused nothing was done here
        trial = self.twin()
        answers = [do_deed(trial, deed) for deed in deeds]
        self.become(trial)
        return answers

    def become(self, other):
        """As the other one is, which is used no more; but the book of playings is its own."""
        self.stock = other.stock
        self.hands = other.hands
        self.true_time = other.true_time
        self.most_above = other.most_above
        self.most_below = other.most_below
        self.deals = other.deals
        self.lying = other.lying
        self.sent = other.sent
        self.rows_told = other.rows_told

    def twin(self):
        other = World(len(self.stock))
        other.become(self)
        other.most_drift = self.most_drift
        other.stock = [house.twin() for house in self.stock]
        other.hands = [[hand.twin() for hand in hands] for hands in self.hands]
        other.deals = [deal.twin() for deal in self.deals]
        other.lying = dict(self.lying)
        other.rows_told = list(self.rows_told)
        return other

    def __len__(self):
        return len(self.deals)
