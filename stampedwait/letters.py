"""Letters between houses: tuples (word, dealing, from, to, body)."""

from stampedwait.times import is_whole

PLEDGE_LETTER = "pledge"
YES_LETTER = "yes"
NO_LETTER = "no"
DONE_LETTER = "done"
OFF_LETTER = "off"
WHAT_LETTER = "what"
LETTER_PARTS = 5


def is_letter_word(thing):
    if not isinstance(thing, str):
        return False
    return thing in (PLEDGE_LETTER, YES_LETTER, NO_LETTER, DONE_LETTER, OFF_LETTER, WHAT_LETTER)


def is_letter_to(thing, house):
    """Whether it is a letter to this house; of bodies nothing is asked."""
    if not isinstance(thing, tuple) or len(thing) != LETTER_PARTS or not is_letter_word(thing[0]):
        return False
    return all([is_whole(number) for number in thing[1:4]]) and thing[3] == house


def letters_to(word, dealing, sender, houses, body):
    """The same letter to each of some houses, in their order, but to the sender."""
    return [(word, dealing, sender, to, body) for to in houses if to != sender]
