"""The words of deeds, and of what kinds the things behind each are."""

DEED_THINGS = {
    "tick": ("number",),
    "set": ("number", "number", "number", "number"),
    "pace": ("number", "number", "pace"),
    "stop": ("number", "number"),
    "back": ("number", "number"),
    "choose": ("number", "number"),
    "renew": ("number",),
    "catch": ("number", "number"),
    "mark": ("number",),
    "gone": ("number", "number"),
    "begin": (),
    "again": ("number",),
    "take": ("number", "key", "way"),
    "read": ("number", "key"),
    "write": ("number", "key", "worth"),
    "finish": ("number",),
    "tell": ("number",),
    "stay": ("number",),
    "deliver": ("number",),
    "lose": ("number",),
    "question": ("number",),
    "at": ("number", "keys"),
    "copy": ("number", "number", "keys"),
    "now": ("number", "keys"),
    "move": ("key", "number"),
    "form": ("number", "number"),
    "settle": (),
}
# stands last wherever it stands
KEYS_THING = "keys"


def is_deed(thing):
    """Whether it is a word with as many things as belong to it, its row of keys a tuple.

    Of all other things the deed itself refuses what isn't fit.
    """
    if not isinstance(thing, tuple) or not thing or not isinstance(thing[0], str):
        return False
    kinds = DEED_THINGS.get(thing[0])
    if kinds is None or len(thing) != len(kinds) + 1:
        return False
    return not kinds or kinds[-1] != KEYS_THING or isinstance(thing[-1], tuple)
