"""A desk that keeps worlds by names and is told rows of words."""

from stampedwait.deedtexts import BLANK, COMMA, read_deed_words, read_number, shown_row
from stampedwait.errors import NoName, NoRow, NoText
from stampedwait.histories import is_ordered
from stampedwait.shelves import is_key
from stampedwait.world import World

DONE_WELL = "ok"
NOTHING = "-"


def shown_numbers(numbers):
    return shown_row(numbers, BLANK) if numbers else NOTHING


def shown_worth(worth):
    return NOTHING if worth is None else shown_row(worth, COMMA)


def shown_answer(answer):
    if answer is None:
        return DONE_WELL
    if isinstance(answer, tuple):
        return shown_row(answer, COMMA)
    if isinstance(answer, dict):
        return BLANK.join([f"{key}={shown_worth(answer[key])}" for key in sorted(list(answer))])
    return str(answer)


def shown_time(world):
    return str(world.true_now())


def shown_heads(world):
    heads = [house.head() for house in world.stock]
    return shown_row([NOTHING if head is None else head for head in heads], BLANK)


def shown_lying(world):
    return shown_numbers(list(world.lying))


def shown_ordered(world):
    return "yes" if is_ordered(world.history()) else "no"


SHOWN = {
    "time": shown_time,
    "heads": shown_heads,
    "lying": shown_lying,
    "ordered": shown_ordered,
}


def words_of(row):
    if not isinstance(row, str) or "\n" in row:
        raise NoRow("no row")
    words = row.split(BLANK)
    if "" in words:
        raise NoRow("blanks that part nothing")
    return words


def read_of_row(reader, thing):
    """What a reader of texts or words reads, or NoRow."""
    try:
        return reader(thing)
    except NoText:
        raise NoRow("no row") from None


class Desk:
    """Each world is kept by its name alone: two desks have nothing in common."""

    def __init__(self):
        self.worlds = {}

    def say(self, row):
        words = words_of(row)
        word = words[0]
        if word == "names" and len(words) == 1:
            return BLANK.join(sorted(list(self.worlds))) if self.worlds else NOTHING
        if len(words) == 1 or not is_key(words[1]):
            raise NoRow("no row with a name")
        name = words[1]
        if word == "do" and len(words) > 2:
            return self.do_deed(name, words[2:])
        if word == "new" and len(words) == 5:
            return self.begin_world(name, words[2:])
        if word in SHOWN and len(words) == 2:
            shown = SHOWN[word]
            return shown(self.world_named(name))
        if word == "drop" and len(words) == 2:
            return self.drop_world(name)
        raise NoRow("no such row")

    def world_named(self, name):
        if name not in self.worlds:
            raise NoName(name)
        return self.worlds[name]

    def begin_world(self, name, rest):
        houses, copies, lease = [read_of_row(read_number, text) for text in rest]
        self.worlds[name] = World(houses, copies=copies, lease=lease)
        return DONE_WELL

    def drop_world(self, name):
        self.world_named(name)
        self.worlds.pop(name)
        return DONE_WELL

    def do_deed(self, name, words):
        deed = read_of_row(read_deed_words, words)
        answers = self.world_named(name).play([deed])
        return shown_answer(answers[0])

    def __len__(self):
        return len(self.worlds)
