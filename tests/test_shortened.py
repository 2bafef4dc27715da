"""With the wait shortened by whatever share the order of stamps is broken (30)."""

import unittest
from math import gcd

from stampedwait.errors import NoShare, Waits
from stampedwait.histories import is_ordered
from stampedwait.shortened import hurried
from stampedwait.world import World
from tests.things import ODD
from tests.worlds import WorldCase

SHARES = [(top, bottom) for bottom in list(range(1, 13)) + [97, 128, 999, 1000] for top in range(bottom)
          if gcd(top, bottom) == 1 and (bottom < 50 or top < 4 or top > bottom - 4 or top % 331 == 1)]


def new_world(wait):
    return World(2, copies=1, lease=1000, wait=wait)


class Hurried(WorldCase):
    def test_its_history_is_not_ordered(self):
        for share in SHARES:
            world = new_world(share)
            world.play(hurried(share))
            self.assertIs(is_ordered(world.history()), False, share)

    def test_that_one_was_told_ahead_of_the_others_beginning(self):
        for share in ((0, 1), (1, 2), (999, 1000)):
            world = new_world(share)
            world.play(hurried(share=share))
            first, second = world.history()
            self.assertLessEqual(first[3], second[2])
            self.assertGreater(first[4], second[4])

    def test_with_the_whole_wait_it_is_refused(self):
        for share in SHARES:
            world = new_world((1, 1))
            self.refused(world, Waits, lambda: world.play(hurried(share)))

    def test_each_by_itself_with_the_whole_wait_is_ordered(self):
        for share in ((0, 1), (1, 2), (999, 1000)):
            world = new_world((1, 1))
            for deed in hurried(share):
                while True:
                    try:
                        world.play([deed])
                    except Waits:
                        world.tick()
                        world.renew(0)
                        continue
                    break
            self.assertEqual(len(world.history()), 2)
            self.assertIs(is_ordered(world.history()), True)

    def test_no_share_of_anything_else(self):
        for thing in ODD + [0, (1, 1), (2, 4), (0, 2), (1, 1001), (3, 2), (-1, 2), (1, 0), [1, 2], (1, 2, 3), (True, 2), (0, True)]:
            self.assertRaises(NoShare, lambda: hurried(thing))

    def test_the_list_is_told_anew(self):
        told = hurried((1, 2))
        self.assertIsInstance(told, list)
        wanted = list(told)
        told.clear()
        self.assertEqual(hurried((1, 2)), wanted)


if __name__ == "__main__":
    unittest.main()
