"""Copies of things, so that what is kept and what is told is never shared."""


def owned(thing):
    """The same, of which no list or dict, at any depth, is one of the first."""
    if isinstance(thing, list):
        return [owned(part) for part in thing]
    if isinstance(thing, tuple):
        return tuple([owned(part) for part in thing])
    if isinstance(thing, dict):
        return {key: owned(thing[key]) for key in thing}
    return thing
