"""Deeds drawn by chance for a world, such that much of it comes to something."""

from stampedwait.errors import (
    Bare, Early, Gone, NoDealing, NoDeed, NoHead, NoHold, NoLetter, Off, Sure, Waits)
from stampedwait.world import World
from tests.worlds import sure_of

REFUSALS = (Bare, Early, Gone, NoDealing, NoDeed, NoHead, NoHold, NoLetter, Off, Sure, Waits)
KEYS = ("a", "b", "c", "d", "e")
COMMON = "deliver deliver deliver take take".split()
OFTEN = "tick write read finish finish tell tell renew".split()
SELDOM = ("tick begin begin choose choose catch at at copy copy now now set pace mark question move move form "
          "again").split()
RARE = "stop back back gone stay lose".split()
WORDS = COMMON * 12 + OFTEN * 6 + SELDOM * 2 + RARE


class Drawer:
    """Draws deeds for a world of its own, and plays each."""

    def __init__(self, chance, wait=(1, 1), drift=None):
        self.chance = chance
        self.many = chance.randrange(1, 5)
        self.copies = chance.choice([1, 2, 3, 3, 5])
        self.drift = drift or chance.choice([(0, 1), (1, 100), (1, 5), (1, 2)])
        lease = chance.choice([20, 100, 1000, 1000])
        self.world = World(self.many, copies=self.copies, drift=self.drift, lease=lease, wait=wait)
        self.worth = 0
        for house in range(self.many):
            self.world.choose(house, 0)
        if chance.randrange(4):
            sure_of(self.world, {key: self.new_worth() for key in KEYS})

    def dealings(self, *words):
        return [dealing for dealing in range(len(self.world)) if self.world.word(dealing) in words]

    def one_of(self, *rows):
        """One of the first row that has any; 0 otherwise."""
        for row in rows:
            if row:
                return self.chance.choice(row)
        return 0

    def held(self, *ways):
        """(dealing, key) of one that is held so by one that is open."""
        some = []
        for house in range(self.many):
            holds = self.world.seen_house(house).holds()
            for dealing in self.dealings("open"):
                some += [(dealing, key) for key, way in holds.of(dealing).items() if way in ways and key != "*"]
        return self.one_of(some, [(0, self.chance.choice(KEYS))])

    def lying(self):
        numbers = list(self.world.letters())
        # late, doubled or never, but mostly those sent of late
        return self.one_of(numbers[-5:] if self.chance.randrange(4) else numbers)

    def pace(self):
        bottom = self.chance.choice([1, 7, 100, 1000])
        top, parts = self.drift
        least, most = -(-(parts - top) * bottom // parts), (parts + top) * bottom // parts
        return (self.chance.choice([least, most, self.chance.randint(least, most)]), bottom)

    def keys(self):
        return tuple(self.chance.choice(KEYS) for step in range(self.chance.randrange(1, 4)))

    def new_worth(self):
        self.worth += 1
        return (self.worth,) * self.chance.randrange(1, 5)

    def draw(self):
        chance, now = self.chance, self.world.true_now()
        word = chance.choice(WORDS)
        house, copy = chance.randrange(self.many), chance.randrange(self.copies)
        dealing = self.one_of(self.dealings("open")[-3:])
        if word == "stop" and chance.randrange(2):
            word = "back"
        things = {
            "tick": lambda: (chance.choice([1, 1, 1, 2, 3, 5, 8, 30]),),
            "set": lambda: (house, copy, chance.randrange(5), chance.randrange(5)),
            "pace": lambda: (house, copy, self.pace()),
            "gone": lambda: (house, now - chance.randrange(40)),
            "again": lambda: (self.one_of(self.dealings("off")),),
            "take": lambda: (dealing, chance.choice(KEYS), chance.choice(["read", "write"])),
            "read": lambda: self.held("read", "write"),
            "write": lambda: (*self.held("write"), self.new_worth()),
            "finish": lambda: (self.one_of(self.dealings("open") * 2 + self.dealings("asked")),),
            "tell": lambda: (self.one_of(self.dealings("asked") * 4 + self.dealings("sure")),),
            "stay": lambda: (self.one_of(self.dealings("open", "asked")),),
            "deliver": lambda: (self.lying(),), "lose": lambda: (self.lying(),),
            "at": lambda: (now + 1 - chance.randrange(30), self.keys()),
            "copy": lambda: (copy, now - chance.randrange(30), self.keys()),
            "now": lambda: (house, self.keys()),
            "move": lambda: (chance.choice(KEYS), house),
            "form": lambda: (now + chance.randrange(60), chance.randrange(1, 5)),
            "begin": lambda: (), "settle": lambda: ()}
        whole = {"renew": (house,), "mark": (house,), "question": (house,)}
        return (word, *(things[word]() if word in things else whole.get(word, (house, copy))))

    def step(self):
        """The deed that was drawn, and whether it was done."""
        deed = self.draw()
        try:
            self.world.play([deed])
        except REFUSALS:
            return deed, False
        return deed, True
