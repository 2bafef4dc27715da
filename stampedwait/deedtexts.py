"""Deeds as texts: a word and its things, a blank between."""

from stampedwait.deedwords import DEED_THINGS, is_deed
from stampedwait.errors import NoDeed, NoText
from stampedwait.holds import READ, WRITE
from stampedwait.shelves import MOST_FIELDS, is_key

FIGURES = "0123456789"
MOST_FIGURES = 30
BLANK = " "
COMMA = ","
SLASH = "/"


def is_number_text(text):
    figures = text[1:] if text.startswith("-") else text
    if not 1 <= len(figures) <= MOST_FIGURES or figures.strip(FIGURES) != "":
        return False
    # noughts ahead are left off, and nought has no sign
    return text == "0" or figures[0] != "0"


def read_number(text):
    if not is_number_text(text):
        raise NoText(0)
    return int(text)


def read_numbers(text, sign, least, most):
    """A tuple of numbers with a sign between, from least to most many."""
    parts = text.split(sign)
    if not least <= len(parts) <= most:
        raise NoText(0)
    return tuple([read_number(part) for part in parts])


def read_worth(text):
    return read_numbers(text, COMMA, 1, MOST_FIELDS)


def read_pace(text):
    return read_numbers(text, SLASH, 2, 2)


def read_key(text):
    if not is_key(text):
        raise NoText(0)
    return text


def read_keys(text):
    return tuple([read_key(part) for part in text.split(COMMA)])


def read_way(text):
    if text not in (READ, WRITE):
        raise NoText(0)
    return text


READERS = {
    "number": read_number,
    "pace": read_pace,
    "key": read_key,
    "way": read_way,
    "worth": read_worth,
    "keys": read_keys,
}


def read_thing(text, kind):
    reader = READERS[kind]
    return reader(text)


def read_deed(text):
    if not isinstance(text, str):
        raise NoText(0)
    return read_deed_words(text.split(BLANK))


def read_deed_words(words):
    """The deed of its text's words; where blanks part nothing a word is empty, and no deed has such a one."""
    kinds = DEED_THINGS.get(words[0])
    if kinds is None or len(words) != len(kinds) + 1:
        raise NoText(0)
    return tuple(words[:1] + [read_thing(thing, kind) for thing, kind in zip(words[1:], kinds)])


def shown_row(things, sign):
    return sign.join([str(thing) for thing in things])


def shown_thing(thing, kind):
    if kind == "pace":
        return shown_row(thing, SLASH)
    if kind in ("worth", "keys"):
        return shown_row(thing, COMMA)
    return str(thing)


def shown_deed(deed):
    if not is_deed(deed):
        raise NoDeed("no deed")
    kinds = DEED_THINGS[deed[0]]
    return shown_row([deed[0]] + [shown_thing(thing, kind) for thing, kind in zip(deed[1:], kinds)], BLANK)
