"""Copies of things, so that what is kept and what is told is never shared."""


def owned(thing):
    """The same, of which no list or dict, at any depth, is one of the first."""
    if isinstance(thing, list):
        return [owned(part) for part in thing]
    if isinstance(thing, tuple):
        return tuple([owned(part) for part in thing])
    if isinstance(thing, dict):
        return {key: owned(thing[key]) for key in thing}
    return thing


def is_fixed(thing):
    """Whether no list or dict stands in it, at any depth: it is shared without a copy."""
    if not isinstance(thing, tuple):
        return not isinstance(thing, (list, dict))
    for part in thing:
        if isinstance(part, (tuple, list, dict)) and not is_fixed(part):
            return False
    return True


def changed_at(row, at, thing):
    """A new list, as the first one but for one place."""
    new = list(row)
    new[at] = thing
    return new
