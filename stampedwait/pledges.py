"""What stands in a pledge's entry: (word, dealing, home, houses, stamp, reads, writes, more)."""

from stampedwait.errors import Waits
from stampedwait.holds import READ, WRITE

PLEDGE = "pledge"
MOVE = "move"
FORM = "form"
# held like a key by a dealing that brings a form; it is at every house
FORM_ITSELF = "*"


def dealing_in(pledge):
    return pledge[1]


def home_in(pledge):
    return pledge[2]


def houses_in(pledge):
    return pledge[3]


def stamp_in(pledge):
    return pledge[4]


def writes_in(pledge):
    return pledge[6]


def things_behind(more, word):
    """The two things that stand behind the word, where this is what more is, else None."""
    return (more[1], more[2]) if more is not None and more[0] == word else None


def move_of(more):
    """(key, to), or None."""
    return things_behind(more, MOVE)


def form_of(more):
    """(time, fields), or None."""
    return things_behind(more, FORM)


def move_in(pledge):
    return move_of(pledge[7])


def form_in(pledge):
    return form_of(pledge[7])


def holds_wanted(pledge):
    """Which keys it needs, and how."""
    some = {key: READ for key in pledge[5]}
    for key, worth in writes_in(pledge):
        some[key] = WRITE
    move = move_in(pledge)
    if move is not None:
        some[move[0]] = WRITE
    if form_in(pledge) is not None:
        some[FORM_ITSELF] = WRITE
    return some


def pledge_times(pledges):
    return [stamp_in(pledge)[0] for pledge in pledges]


def form_times(pledges):
    forms = [form_in(pledge) for pledge in pledges]
    return [form[0] for form in forms if form is not None]


def refuse_up_to(times, time):
    """Waits for the least of some times, where it is up to this one."""
    if times and min(times) <= time:
        raise Waits(min(times))
