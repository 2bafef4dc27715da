"""Worths of several keys read at one time, each at the house where the key is then."""

from stampedwait.errors import Elsewhere, NoKey
from stampedwait.ledgers import first_house
from stampedwait.shelves import refuse_no_key, refuse_no_time
from stampedwait.tellings import NOW_ROW, READ_ROW


def refuse_no_keys(keys):
    if not isinstance(keys, (list, tuple)):
        raise NoKey(keys)
    for key in keys:
        refuse_no_key(key)


def looked_up(world, key, time, copy):
    """The house where the key is at a time, and its worth then."""
    house = first_house(key, world.houses())
    while True:
        try:
            return (house, world.look(house, key, time, copy=copy))
        except Elsewhere as elsewhere:
            house = elsewhere.house


def read_and_kept(world, word, time, keys, copy):
    found = {}
    for key in keys:
        found[key] = looked_up(world, key, time, copy)
    # only now, when none was refused, anything is changed
    told = {}
    for key in found:
        house, worth = found[key]
        world.rise(house, time, copy=copy)
        world.keep_read(word, time, key, worth)
        told[key] = worth
    return told


def read_at(world, time, keys, *, copy=None):
    refuse_no_time(time)
    refuse_no_keys(keys)
    return read_and_kept(world, READ_ROW, time, keys, copy)


def read_now(world, house, keys):
    time = world.high_of(house)
    refuse_no_keys(keys)
    return read_and_kept(world, NOW_ROW, time, keys, None)
