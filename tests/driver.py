"""A driver that does with houses whatever chance says, and keeps what was told."""

from fractions import Fraction

from stampedwait.errors import (
    Early, Elsewhere, Gone, NoHead, NoHold, Off, Sure, Waits)
from stampedwait.houses import House
from stampedwait.ledgers import first_house

REFUSALS = (Early, Elsewhere, Gone, NoHead, NoHold, Off, Sure, Waits)
KEYS = ("a", "b", "c", "d")
COMMON = ["tick", "use", "deliver", "deliver", "deliver"]
OFTEN = ["begin", "finish", "finish", "finish", "tell", "tell", "tell", "renew", "choose", "catch", "at", "copy", "now"]
SELDOM = ["set", "set", "stop", "back", "back", "mark", "gone", "question", "move", "form", "give_up"]


class Deal:
    def __init__(self, number, begun, more=None):
        self.number = number
        self.begun = begun
        self.more = more
        self.word = "open"
        self.reigns = {}
        self.reads = []
        self.read_at = {}
        self.writes = {}
        self.told = None
        self.stamp = None

    def written(self):
        return {key: worth for some in self.writes.values() for key, worth in some.items()}


class Driver:
    def __init__(self, chance, wait=(1, 1)):
        self.chance = chance
        self.drift = chance.choice([(0, 1), (1, 100), (1, 5)])
        self.many = chance.randrange(1, 4)
        self.copies = chance.choice([1, 3])
        self.houses = [House(number, self.many, copies=self.copies, drift=self.drift,
                             lease=chance.choice([30, 200, 1000]), wait=wait) for number in range(self.many)]
        self.true = 0
        self.left = {}
        self.deals = []
        self.letters = []
        self.reads = []
        self.worth = 0
        for house in self.houses:
            for copy in range(self.copies):
                house.set_clock(copy, 0, chance.randrange(5))
            house.choose(0)

    def tick(self, many):
        self.true += many
        for house in self.houses:
            for copy in range(self.copies):
                at = (house.number(), copy)
                pace = 1 + Fraction(*self.drift) * self.chance.randrange(-10, 11) / 10
                counted = self.left.get(at, 0) + many * pace
                house.tick_clock(copy, int(counted))
                self.left[at] = counted - int(counted)

    def set_clock(self, house, copy, wide=6):
        house.set_clock(copy, self.true - self.chance.randrange(wide), self.true + self.chance.randrange(wide))
        self.left[(house.number(), copy)] = 0

    def begin(self, more=None):
        self.deals.append(Deal(len(self.deals), self.true, more))
        return self.deals[-1]

    def hold(self, deal, house, key, mode, coming=False):
        reign = deal.reigns.setdefault(house.number(), house.reign())
        try:
            return house.hold(deal.number, key, mode, reign=reign, coming=coming)[0] == "held"
        except Off:
            self.put_off(deal)
            raise

    def put_off(self, deal):
        deal.word = "off"
        for number in deal.reigns:
            try:
                self.houses[number].drop(deal.number)
            except NoHead:
                pass

    def house_with(self, deal, key, mode):
        """The house at which the key is held, or None where it waits."""
        number = first_house(key, self.many)
        while True:
            house = self.houses[number]
            try:
                return house if self.hold(deal, house, key, mode) else None
            except Elsewhere as elsewhere:
                number = elsewhere.house

    def use(self, deal):
        key = self.chance.choice(KEYS)
        mode = self.chance.choice(("read", "write"))
        house = self.house_with(deal, key, mode)
        if house is None:
            return
        if key not in deal.written():
            self.read_key(deal, house, key)
        if mode == "write":
            self.worth += 1
            deal.writes.setdefault(house.number(), {})[key] = (self.worth, self.worth + 1)

    def read_key(self, deal, house, key):
        worth = house.newest(deal.number, key)
        keys = deal.read_at.setdefault(house.number(), {})
        if key not in keys:
            keys[key] = True
            deal.reads.append((key, worth))
        return worth

    def move(self):
        key = self.chance.choice(KEYS)
        to = self.chance.randrange(self.many)
        deal = self.begin(("move", key, to))
        house = self.house_with(deal, key, "write")
        if house is None or house.number() == to or not self.hold(deal, self.houses[to], key, "write", coming=True):
            self.put_off(deal)
            return
        worth = self.read_key(deal, house, key)
        if worth is not None:
            deal.writes[to] = {key: worth}
        self.finish(deal)

    def form(self):
        deal = self.begin(("form", self.true + self.chance.randrange(60), self.chance.randrange(1, 5)))
        for house in self.houses:
            if not self.hold(deal, house, "*", "write"):
                self.put_off(deal)
                return
        self.finish(deal)

    def finish(self, deal):
        if not deal.reigns:
            return
        if deal.word == "open":
            deal.word = "asked"
        houses = tuple(sorted(deal.reigns))
        for number in houses:
            reads = tuple(sorted(deal.read_at.get(number, {})))
            writes = tuple(sorted(deal.writes.get(number, {}).items()))
            body = (houses, deal.reigns[number], reads, writes, deal.more)
            self.letters.append(("pledge", deal.number, houses[0], number, body))

    def home_of(self, deal):
        return self.houses[min(deal.reigns)]

    def tell(self, deal):
        self.letters += self.home_of(deal).tell(deal.number)
        if deal.told is None:
            deal.word = "sure"
            deal.told = self.true
            deal.stamp = self.home_of(deal).ledger().stamp_of(deal.number)

    def try_to_tell(self, deal):
        try:
            self.tell(deal)
        except Off:
            deal.word = "off"
        except (Waits, NoHead):
            pass

    def deliver(self, letter):
        self.letters += self.houses[letter[3]].receive(letter)

    def look_up(self, word, key, time, copy):
        number = first_house(key, self.many)
        while True:
            try:
                worth = self.houses[number].read(key, time, copy=copy)
                self.reads.append((word, self.true, time, key, worth))
                return
            except Elsewhere as elsewhere:
                number = elsewhere.house

    def deed(self):
        chance = self.chance
        house = chance.choice(self.houses)
        copy = chance.randrange(self.copies)
        some = [deal for deal in self.deals if deal.word == "open"]
        asked = [deal for deal in self.deals if deal.word in ("asked", "sure")]
        word = chance.choice(COMMON * 8 + OFTEN * 3 + SELDOM)
        try:
            self.do(word, house, copy, some, asked)
        except REFUSALS:
            pass
        return word

    def do(self, word, house, copy, some, asked):
        chance = self.chance
        if word == "tick":
            self.tick(chance.choice([1, 1, 2, 3, 5, 8, 13, 60]))
        elif word == "set":
            self.set_clock(house, copy)
        elif word in ("stop", "back"):
            # seldom enough that most houses have a head
            (house.stop if word == "stop" and chance.randrange(3) == 0 else house.back)(copy)
        elif word == "choose":
            house.choose(copy)
        elif word == "catch":
            house.catch_up(copy)
        elif word == "renew":
            house.renew()
        elif word == "mark":
            house.mark()
        elif word == "gone":
            house.let_go(self.true - chance.randrange(40))
        elif word == "question":
            self.letters += house.questions()
        elif word == "begin":
            self.begin()
        elif word in ("move", "form"):
            {"move": self.move, "form": self.form}[word]()
        elif word == "deliver" and self.letters:
            # late, doubled or never, but mostly those sent of late
            self.deliver(chance.choice(self.letters[-6:]))
        elif word == "use" and some:
            self.use(chance.choice(some))
        elif word == "finish" and [deal for deal in some + asked if deal.reigns]:
            self.finish(chance.choice([deal for deal in some if deal.reigns] * 3 + asked))
        elif word == "tell":
            for deal in asked[-6:]:
                self.try_to_tell(deal)
        elif word == "give_up" and asked:
            deal = chance.choice(asked)
            self.letters += self.home_of(deal).give_up(deal.number)
        elif word in ("at", "copy", "now"):
            copies = copy if word == "copy" else None
            time = house.bounds()[1] if word == "now" else self.true - chance.randrange(30)
            self.look_up(word, chance.choice(KEYS), time, copies)

    def settle(self):
        """Rounds in which all copies come back and all letters come; ends where nothing is pledged."""
        for step in range(6):
            self.tick(1500)
            for house in self.houses:
                self.choose_anew(house)
            for deal in self.deals:
                if deal.word in ("asked", "sure"):
                    self.finish_again(deal)
            for house in self.houses:
                self.letters += house.questions()
            self.deliver_all()

    def choose_anew(self, house):
        for copy in range(self.copies):
            house.back(copy)
            house.set_clock(copy, self.true, self.true)
            self.left[(house.number(), copy)] = 0
        house.choose(0)
        for copy in range(self.copies):
            house.catch_up(copy)

    def finish_again(self, deal):
        if deal.word == "asked":
            self.finish(deal)
        self.deliver_all()
        self.try_to_tell(deal)
        self.deliver_all()

    def deliver_all(self):
        some = self.letters
        self.letters = []
        while some:
            for letter in some:
                try:
                    self.deliver(letter)
                except Waits:
                    pass
            some = self.letters
            self.letters = []
