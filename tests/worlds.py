"""Worlds made ready for tests, and all that is told of one."""

from stampedwait.errors import Waits
from stampedwait.world import World
from tests.made import SURE_CLOCK, Case, seen


def world_of(houses=2, copies=1, drift=SURE_CLOCK, lease=1000, wait=(1, 1), heads=True):
    """A world whose houses have heads; by a drift of nought its clocks tell the true time alone."""
    world = World(houses, copies=copies, drift=drift, lease=lease, wait=wait)
    for house in range(houses if heads else 0):
        world.choose(house, 0)
    return world


def seen_world(world):
    """All that is told of a world but its book of playings, to be compared."""
    numbers = range(len(world))
    return (world.true_now(), world.told_wait(), world.houses(), len(world), world.letters(), list(world.letters()),
            [(world.word(dealing), world.age_of(dealing)) for dealing in numbers],
            world.waiting(), world.history(),
            [seen(world.seen_house(house)) for house in range(world.houses())])


def deliver_all(world):
    """Each letter that lies, and each answer, once: then they are lost."""
    while world.letters():
        for number in list(world.letters()):
            world.deliver(number)
            world.lose(number)


def wrote(world, worths, reads=()):
    """A dealing that reads and writes and is finished; told is its number."""
    dealing = world.begin()
    for key in reads:
        world.take(dealing, key, "read")
        world.read(dealing, key)
    for key, worth in worths.items():
        world.take(dealing, key, "write")
        world.write(dealing, key, worth)
    world.finish(dealing)
    return dealing


def told_at_last(world, dealing, most=50):
    """Ticks till it is told sure, and delivers all: its stamp."""
    deliver_all(world)
    for step in range(most):
        try:
            stamp = world.tell(dealing)
        except Waits:
            world.tick()
            continue
        deliver_all(world)
        return stamp
    raise AssertionError("never told")


def sure_of(world, worths, reads=()):
    dealing = wrote(world, worths, reads)
    told_at_last(world, dealing)
    return dealing


def reign_anew(world, house=0, copy=0):
    """The house gets a new head: all promises are waited out."""
    world.tick(1100)
    for number in range(world.houses()):
        world.choose(number, copy if number == house else 0)


class WorldCase(Case):
    see = staticmethod(seen_world)
