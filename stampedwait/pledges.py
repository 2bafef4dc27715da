"""What stands in a pledge's entry: (word, dealing, home, houses, stamp, reads, writes, more)."""

from stampedwait.holds import READ, WRITE

PLEDGE = "pledge"
MOVE = "move"
FORM = "form"
# held like a key by a dealing that brings a form; it is at every house
FORM_ITSELF = "*"


def dealing_in(pledge):
    return pledge[1]


def home_in(pledge):
    return pledge[2]


def houses_in(pledge):
    return pledge[3]


def stamp_in(pledge):
    return pledge[4]


def writes_in(pledge):
    return pledge[6]


def more_in(pledge, word):
    """The two things that stand behind the word, where it brings such a thing more, else None."""
    more = pledge[7]
    return (more[1], more[2]) if more is not None and more[0] == word else None


def move_in(pledge):
    """(key, to), or None."""
    return more_in(pledge, MOVE)


def form_in(pledge):
    """(time, fields), or None."""
    return more_in(pledge, FORM)


def holds_wanted(pledge):
    """Which keys it needs, and how."""
    some = {key: READ for key in pledge[5]}
    for key, worth in writes_in(pledge):
        some[key] = WRITE
    move = move_in(pledge)
    if move is not None:
        some[move[0]] = WRITE
    if form_in(pledge) is not None:
        some[FORM_ITSELF] = WRITE
    return some


def pledge_times(pledges):
    return [stamp_in(pledge)[0] for pledge in pledges]


def form_times(pledges):
    forms = [form_in(pledge) for pledge in pledges]
    return [form[0] for form in forms if form is not None]
