"""How much is done for an answer: functions called are counted, so that no machine's clock is asked.

Where a playing copies its whole world, a read the whole book of its copy, far more is called than each limit.
"""

import sys
import unittest

from stampedwait.desk import Desk
from stampedwait.errors import NoDealing, NoHead
from stampedwait.world import World
from tests.made import house_of, tick_all
from tests.worlds import world_of

LETTERS = "abcdefghij"


def calls_of(deed):
    """How many functions, of the package and of Python, are called by a deed."""
    many = 0

    def count(frame, event, thing):
        nonlocal many
        if event in ("call", "c_call"):
            many += 1

    before = sys.getprofile()
    sys.setprofile(count)
    try:
        deed()
    finally:
        sys.setprofile(before)
    return many


def told(world):
    """All that is told of a world and of its houses."""
    some = [world.true_now(), world.told_wait(), world.letters(), world.history(), world.waiting(),
            [world.word(dealing) for dealing in range(len(world))]]
    for number in range(world.houses()):
        house = world.seen_house(number)
        copies = house.copies()
        some.append([(copies.book(copy), copies.clock(copy).bounds()) for copy in range(len(copies))])
        some.append((house.head(), house.floor(), house.reign(), house.ledger().pending()))
    return some


def play_and_tell():
    """Rows played at once, the same ones deed by deed to twins, and all told ahead and behind."""
    world = World(2, copies=2, lease=1000)
    world.choose(0, 0)
    world.choose(1, 0)
    for number in range(10):
        told(world)
        world.twin()
        twin = world.twin()
        key = LETTERS[number]
        row = [("begin",), ("take", number, key, "write"), ("write", number, key, (number,)), ("finish", number),
               ("tick", 3), ("pace", 0, 1, (99, 100)), ("question", 0)]
        for deed in row:
            twin.play([deed])
        world.play(row)
        told(world)


def new_desk():
    desk = Desk()
    for row in ("new a 2 1 100", "do a choose 0 0", "do a choose 1 0", "do a begin"):
        desk.say(row)
    return desk


def say_ticks():
    desk = new_desk()
    for step in range(150):
        desk.say("do a tick 1")
        desk.say("heads a")


def say_what_is_shown():
    desk = new_desk()
    for step in range(60):
        for row in ("names", "time a", "heads a", "lying a", "ordered a"):
            desk.say(row)


def choose_and_renew():
    world = World(3, copies=3)
    for step in range(20):
        for house in range(3):
            for deed in (("choose", house, 0), ("renew", house)):
                try:
                    world.play([deed])
                except NoHead:
                    continue
        world.play([("begin",)])


class Calls(unittest.TestCase):
    def test_playing_twins_and_telling(self):
        self.assertLess(calls_of(play_and_tell), 40000)

    def test_a_desk_that_ticks(self):
        self.assertLess(calls_of(say_ticks), 40000)

    def test_a_desk_that_shows(self):
        self.assertLess(calls_of(say_what_is_shown), 7000)

    def test_choosing_and_renewing(self):
        self.assertLess(calls_of(choose_and_renew), 30000)

    def test_a_playing_does_not_grow_with_what_lies_untouched(self):
        def renewed(dealings):
            world = world_of()
            for step in range(dealings):
                number = world.begin()
                world.take(number, "a", "read")
                world.finish(number)
            world.play([("renew", 0)])
            with self.assertRaises(NoDealing):
                world.play([("tell", dealings)])
            return calls_of(lambda: world.play([("renew", 0)]))

        self.assertEqual(renewed(100), renewed(1))

    def test_a_copy_behind_is_read_again_without_its_book(self):
        house = house_of(copies=3)
        for step in range(80):
            tick_all(house, 1)
            house.mark()
        house.stop(2)
        tick_all(house, 1)
        house.mark()
        house.back(2)
        first = calls_of(lambda: house.look("a", 5, copy=2))
        again = calls_of(lambda: house.look("a", 5, copy=2))
        self.assertLess(again, 100)
        self.assertLess(3 * again, first)
        # a twin reads on with what was noted
        twin = house.twin()
        self.assertEqual(calls_of(lambda: twin.look("a", 5, copy=2)), again)
        # and of one that isn't behind no book is noted at all
        self.assertLess(calls_of(lambda: house.look("a", 5, copy=1)), 100)


if __name__ == "__main__":
    unittest.main()
