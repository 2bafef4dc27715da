"""Keys that move between houses, and forms of worths ahead of their time."""

from stampedwait.errors import NoDeed, NoForm, Off
from stampedwait.holds import WAITS, WRITE
from stampedwait.pledges import FORM, FORM_ITSELF, MOVE
from stampedwait.shelves import MOST_FIELDS
from stampedwait.times import is_from_to, is_whole


def take_or_end(world, dealing, house, key, coming):
    """Takes it to write; where it had to wait the dealing is off."""
    if world.take_at(dealing, house, key, WRITE, coming=coming) == WAITS:
        world.put_off(dealing)
        raise Off(dealing)


def move(world, key, to):
    house = world.house_with(key)
    world.refuse_no_house(to)
    world.need_head(house)
    world.need_head(to)
    if house == to:
        raise NoDeed("the key is there")
    dealing = world.begin_more((MOVE, key, to))
    take_or_end(world, dealing, house, key, False)
    take_or_end(world, dealing, to, key, True)
    worth = world.read_in_house(dealing, house, key)
    if worth is not None:
        world.put_in_house(dealing, to, key, worth)
    return dealing


def form_ahead(world, time, fields):
    if not is_whole(time) or not is_from_to(fields, 1, MOST_FIELDS):
        raise NoForm("no time and fields")
    for house in range(world.houses()):
        world.need_head(house)
    dealing = world.begin_more((FORM, time, fields))
    for house in range(world.houses()):
        take_or_end(world, dealing, house, FORM_ITSELF, False)
    return dealing
