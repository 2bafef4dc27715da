"""A desk that keeps worlds by names and is told rows of words."""

from stampedwait.deedtexts import BLANK, COMMA, read_deed, read_number, shown_row
from stampedwait.errors import NoName, NoRow, NoText
from stampedwait.histories import is_ordered
from stampedwait.shelves import is_key
from stampedwait.world import World

DONE_WELL = "ok"
NOTHING = "-"


def shown_numbers(numbers):
    return shown_row(numbers, BLANK) if numbers else NOTHING


def shown_worth(worth):
    return NOTHING if worth is None else shown_row(worth, COMMA)


def shown_answer(answer):
    if answer is None:
        return DONE_WELL
    if isinstance(answer, tuple):
        return shown_row(answer, COMMA)
    if isinstance(answer, dict):
        return BLANK.join([f"{key}={shown_worth(answer[key])}" for key in sorted(list(answer))])
    return str(answer)


def shown_time(world):
    return str(world.true_now())


def shown_heads(world):
    heads = [world.house_numbered(house).head() for house in range(world.houses())]
    return shown_row([NOTHING if head is None else head for head in heads], BLANK)


def shown_lying(world):
    return shown_numbers(list(world.letters()))


def shown_ordered(world):
    return "yes" if is_ordered(world.history()) else "no"


SHOWN = {
    "time": shown_time,
    "heads": shown_heads,
    "lying": shown_lying,
    "ordered": shown_ordered,
}


def words_of(row):
    """The words of a row: the first one, and those behind it."""
    if not isinstance(row, str) or "\n" in row:
        raise NoRow("no row")
    words = row.split(BLANK)
    if "" in words:
        raise NoRow("blanks that part nothing")
    return words


def read_of_row(reader, text):
    """What a reader of texts reads, or NoRow."""
    try:
        return reader(text)
    except NoText:
        raise NoRow("no row") from None


class Desk:
    """Each world is kept by its name alone: two desks have nothing in common."""

    def __init__(self):
        self.worlds = {}

    def say(self, row):
        word, *things = words_of(row)
        if word == "names" and not things:
            return shown_row(sorted(list(self.worlds)), BLANK) if self.worlds else NOTHING
        if not things or not is_key(things[0]):
            raise NoRow("no row with a name")
        name, *rest = things
        if word == "new" and len(rest) == 3:
            return self.begin_world(name, rest)
        if word == "do" and rest:
            return self.do_deed(name, BLANK.join(rest))
        if word == "drop" and not rest:
            return self.drop_world(name)
        if word in SHOWN and not rest:
            shown = SHOWN[word]
            return shown(self.world_named(name))
        raise NoRow("no such row")

    def world_named(self, name):
        if name not in self.worlds:
            raise NoName(name)
        return self.worlds[name]

    def begin_world(self, name, rest):
        houses, copies, lease = [read_of_row(read_number, text) for text in rest]
        self.worlds[name] = World(houses, copies=copies, lease=lease)
        return DONE_WELL

    def drop_world(self, name):
        self.world_named(name)
        self.worlds.pop(name)
        return DONE_WELL

    def do_deed(self, name, text):
        deed = read_of_row(read_deed, text)
        answers = self.world_named(name).play([deed])
        return shown_answer(answers[0])

    def __len__(self):
        return len(self.worlds)
