"""True time, clocks and their paces, what is refused of houses and copies (19), the longest wait (31)."""

import unittest
from fractions import Fraction

from stampedwait.errors import NoBounds, NoCopy, NoDrift, NoHead, NoNumber, NoPace, NoShare
from stampedwait.times import least_passed, most_passed
from stampedwait.world import World
from tests.things import BIG, ODD
from tests.worlds import WorldCase, world_of


def bounds_of(world, house=0, copy=0):
    return world.seen_house(house).copies().clock(copy).bounds()


class Making(WorldCase):
    def test_houses_and_copies(self):
        for houses in range(1, 5):
            for copies in range(1, 6):
                world = World(houses, copies=copies)
                self.assertEqual(world.houses(), houses)
                for house in range(houses):
                    seen = world.seen_house(house)
                    self.assertEqual(seen.number(), house)
                    self.assertEqual(len(seen.copies()), copies)
                self.assertEqual((len(world), world.true_now()), (0, 0))
                self.assertEqual((world.history(), world.letters(), world.book(), world.waiting()), ([], {}, [], {}))

    def test_as_is_left_out(self):
        world = World(2)
        copies = world.seen_house(1).copies()
        self.assertEqual(len(copies), 3)
        self.assertEqual(copies.clock(0).drift(), (1, 100))
        self.assertEqual(copies.clock(2).bounds(), (0, 1))
        world.choose(0, 0)
        world.tick(19)
        self.assertEqual(world.seen_house(0).head(), 0)
        world.tick(1)
        self.assertIsNone(world.seen_house(0).head())

    def test_by_names(self):
        world = World(houses=1, copies=2, drift=(0, 1), lease=5, wait=(1, 2))
        world.choose(house=0, copy=1)
        world.tick(many=4)
        self.assertEqual(world.seen_house(house=0).head(), 1)
        world.tick(many=1)
        self.assertIsNone(world.seen_house(house=0).head())

    def test_refused_of_anything(self):
        for thing in ODD + [0, -1, 5, BIG]:
            self.raised(NoNumber, lambda: World(thing))
        for thing in ODD + [0, -1, 6, BIG]:
            self.raised(NoNumber, lambda: World(1, copies=thing))
        for thing in ODD + [0, -1, 1001, BIG]:
            self.raised(NoNumber, lambda: World(1, lease=thing))
        for thing in ODD + [(1, 1), (2, 4), (1, 1001)]:
            self.raised(NoDrift, lambda: World(1, drift=thing))
        for thing in ODD + [(2, 2), (2, 1), (1, 1001)]:
            self.raised(NoShare, lambda: World(1, wait=thing))


class TrueTime(WorldCase):
    def test_goes_on_by_ticks(self):
        world = World(1)
        self.assertIsNone(world.tick())
        self.assertEqual(world.true_now(), 1)
        world.tick(10000)
        self.assertEqual(world.true_now(), 10001)
        world.tick(many=3)
        self.assertEqual(world.true_now(), 10004)

    def test_no_number_of_anything_else(self):
        world = World(1)
        for thing in ODD + [0, -1, 10001, BIG]:
            self.refused(world, NoNumber, lambda: world.tick(thing))

    def test_clocks_count_by_their_paces(self):
        world = world_of(2, copies=2, drift=(1, 10))
        world.pace(0, 1, (11, 10))
        world.pace(1, 0, (9, 10))
        world.tick(100)
        for house, copy, counted in ((0, 0, 100), (0, 1, 110), (1, 0, 90), (1, 1, 100)):
            self.assertEqual(bounds_of(world, house, copy),
                             (least_passed(counted, (1, 10)), most_passed(counted, (1, 10))))

    def test_stopped_ones_count_too(self):
        world = world_of(1, copies=2)
        world.stop(0, 1)
        world.tick(7)
        self.assertEqual(bounds_of(world, 0, 1), (7, 7))


class Parts(WorldCase):
    """Parts of a tick that are left over."""

    def counted(self, world):
        # with this drift the upper bound is twice what is counted, and one
        high = bounds_of(world)[1] - self.stands
        self.assertEqual(high % 2, 1)
        return high // 2

    def setUp(self):
        self.world = world_of(1, drift=(1, 2))
        self.stands = 0

    def test_come_to_a_tick_in_time(self):
        self.world.pace(0, 0, (2, 3))
        counts = []
        for step in range(6):
            self.world.tick()
            counts.append(self.counted(self.world))
        self.assertEqual(counts, [0, 1, 2, 2, 3, 4])

    def test_stay_over_where_the_pace_is_changed(self):
        whole = Fraction(0)
        for top, bottom, many in ((2, 3, 1), (5, 7, 2), (999, 1000, 1), (500, 999, 3), (3, 2, 1), (1, 1, 5), (7, 6, 11)):
            self.world.pace(0, 0, (top, bottom))
            self.world.tick(many)
            whole += Fraction(top, bottom) * many
            self.assertEqual(self.counted(self.world), int(whole))

    def test_are_gone_where_it_is_set(self):
        self.world.pace(0, 0, (2, 3))
        self.world.tick()
        self.world.set_clock(0, 0)
        self.stands = 1
        self.world.tick()
        self.assertEqual(self.counted(self.world), 0)
        self.world.tick()
        self.assertEqual(self.counted(self.world), 1)

    def test_of_one_clock_alone_are_gone(self):
        world = world_of(1, copies=2, drift=(1, 2))
        for copy in (0, 1):
            world.pace(0, copy, (1, 2))
        world.tick()
        world.set_clock(0, 0)
        world.tick()
        self.assertEqual(bounds_of(world, 0, 1)[0], least_passed(1, (1, 2)))
        self.assertEqual(bounds_of(world, 0, 0)[0], 1 + least_passed(0, (1, 2)))


class Setting(WorldCase):
    def test_before_and_behind(self):
        world = world_of(1, drift=(1, 10))
        world.tick(100)
        self.assertEqual(bounds_of(world), (91, 112))
        self.assertIsNone(world.set_clock(0, 0, before=5, behind=3))
        self.assertEqual(bounds_of(world), (95, 104))
        world.set_clock(0, 0, before=50, behind=50)
        self.assertEqual(bounds_of(world), (95, 105))
        world.set_clock(house=0, copy=0)
        self.assertEqual(bounds_of(world), (100, 101))

    def test_no_number_of_anything_else(self):
        world = world_of(1)
        world.tick(5)
        for thing in ODD + [-1, -BIG]:
            self.refused(world, NoNumber, lambda: world.set_clock(0, 0, before=thing))
            self.refused(world, NoNumber, lambda: world.set_clock(0, 0, behind=thing))
        world.set_clock(0, 0, before=BIG, behind=BIG)
        self.assertEqual(bounds_of(world), (5, 5))

    def test_never_without_a_time_in_common(self):
        world = world_of(1, drift=(1, 5))
        for step in range(200):
            world.tick(step % 7 + 1)
            world.pace(0, 0, ((4, 5), (6, 5), (1, 1))[step % 3])
            try:
                world.set_clock(0, 0, before=step % 5, behind=step % 4)
            except NoBounds:
                self.fail("the true time is in both")


class Paces(WorldCase):
    def test_the_least_the_greatest_and_between(self):
        world = world_of(1, drift=(1, 100))
        for pace in ((99, 100), (101, 100), (1, 1), (7, 7), (1000, 1000), (990, 1000), (1010, 1000), (198, 200),
                     (100, 101), (999, 1000)):
            self.assertIsNone(world.pace(0, 0, pace))
        world.pace(house=0, copy=0, pace=(101, 100))
        world.tick(100)
        self.assertEqual(bounds_of(world), (100, most_passed(101, (1, 100))))

    def test_no_pace_of_anything_else(self):
        world = world_of(1, drift=(1, 100))
        for thing in ODD + [0, (98, 100), (102, 100), (989, 1000), (1011, 1000), (99, 101), (1001, 1001), (0, 0), (1, 0),
                            (-1, -1), (100, -100), (-100, 100), (1, 1, 1), [1, 1], (True, 1), (1, True), (BIG, BIG)]:
            self.refused(world, NoPace, lambda: world.pace(0, 0, thing))

    def test_without_a_drift(self):
        world = world_of(1, drift=(0, 1))
        world.pace(0, 0, (3, 3))
        self.refused(world, NoPace, lambda: world.pace(0, 0, (1000, 999)))

    def test_near_a_drift_of_one(self):
        world = world_of(1, drift=(999, 1000))
        world.pace(0, 0, (1, 1000))
        world.pace(0, 0, (1999, 1000))
        self.refused(world, NoPace, lambda: world.pace(0, 0, (0, 1000)))
        self.refused(world, NoPace, lambda: world.pace(0, 0, (2, 1)))


class NoHouseNoCopy(WorldCase):
    def deeds_of(self, world, house, copy):
        return [lambda: world.set_clock(house, copy, before="x", behind="x"), lambda: world.pace(house, copy, "x"),
                lambda: world.stop(house, copy), lambda: world.back(house, copy), lambda: world.choose(house, copy),
                lambda: world.catch_up(house, copy), lambda: world.look(house, "a", 0, copy=copy),
                lambda: world.look(house, "A", "x", copy=copy), lambda: world.rise(house, "x", copy=copy)]

    def test_of_a_house_first(self):
        world = world_of(2, copies=3, heads=False)
        for thing in ODD + [2, -1, BIG]:
            for deed in self.deeds_of(world, thing, "x"):
                self.check(world, thing, deed)
            for deed in (lambda: world.renew(thing), lambda: world.mark(thing), lambda: world.let_go(thing, "x"),
                         lambda: world.question(thing), lambda: world.seen_house(thing)):
                self.check(world, thing, deed)

    def test_then_of_a_copy(self):
        world = world_of(2, copies=3, heads=False)
        for thing in ODD + [3, -1, BIG]:
            if thing is not None:
                for deed in self.deeds_of(world, 1, thing):
                    self.check(world, thing, deed)

    def check(self, world, thing, deed):
        with self.assertRaises(NoCopy) as caught:
            deed()
        self.assertIs(caught.exception.copy, thing)


class Copies(WorldCase):
    def test_stopped_called_back_chosen_given_the_book(self):
        world = world_of(2, copies=3)
        self.assertIsNone(world.stop(1, 2))
        self.assertEqual([world.seen_house(house).copies().is_up(2) for house in (0, 1)], [True, False])
        world.tick(1)
        self.assertEqual(world.mark(house=1), 1)
        self.assertIsNone(world.back(1, 2))
        self.assertEqual(world.seen_house(1).copies().book(2), [])
        self.assertIsNone(world.catch_up(1, 2))
        self.assertEqual(world.seen_house(1).copies().book(2), [("mark", 1)])
        world.tick(1200)
        self.assertEqual(world.choose(1, 2), 1000)
        self.assertEqual((world.seen_house(1).head(), world.seen_house(1).reign()), (2, 2))
        self.refused(world, NoHead, lambda: world.choose(1, 1), house=1)
        world.stop(house=1, copy=2)
        world.back(house=1, copy=2)
        self.refused(world, NoHead, lambda: world.catch_up(house=1, copy=0), house=1)

    def test_the_lease_made_longer(self):
        world = world_of(1, lease=10)
        world.tick(9)
        self.assertIsNone(world.renew(house=0))
        world.tick(9)
        self.assertEqual(world.seen_house(0).head(), 0)
        world.tick(1)
        self.assertIsNone(world.seen_house(0).head())
        self.refused(world, NoHead, lambda: world.renew(0), house=0)

    def test_a_house_told_is_a_twin(self):
        world = world_of(1)
        house = world.seen_house(0)
        self.unchanged(world, lambda: (house.stop(0), house.tick_clock(0, 5), house.hold(0, "a", "read", reign=1)
                                       if house.head() is not None else None))


class LongestWait(WorldCase):
    def test_at_its_making(self):
        self.assertEqual(World(1, drift=(0, 1)).told_wait(), 2)
        self.assertEqual(World(1).told_wait(), 3)
        self.assertEqual(World(3, drift=(999, 1000)).told_wait(), 1001)

    def test_behind_each_deed(self):
        world = world_of(2, copies=2, drift=(1, 10))
        above, below = 1, 0
        paces = ((9, 10), (11, 10), (1, 1))
        for step in range(120):
            if step % 4 == 0:
                world.pace(step % 2, step // 2 % 2, paces[step % 3])
            if step % 11 == 0:
                world.set_clock(step % 2, step // 2 % 2, before=step % 3, behind=step % 5)
            else:
                world.tick(step % 9 + 1)
            for house in (0, 1):
                for copy in (0, 1):
                    low, high = bounds_of(world, house, copy)
                    self.assertTrue(low <= world.true_now() <= high)
                    above = max(above, high - world.true_now())
                    below = max(below, world.true_now() - low)
            self.assertEqual(world.told_wait(), above + below + 2)

    def test_each_by_itself_of_two_clocks_at_two_moments(self):
        world = world_of(1, copies=2, drift=(1, 10))
        world.pace(0, 0, (11, 10))
        world.pace(0, 1, (9, 10))
        world.tick(100)
        self.assertEqual(bounds_of(world, 0, 0), (100, 123))
        self.assertEqual(bounds_of(world, 0, 1), (82, 101))
        self.assertEqual(world.told_wait(), 23 + 18 + 2)
        world.set_clock(0, 0)
        world.set_clock(0, 1)
        self.assertEqual(world.told_wait(), 43)

    def test_behind_a_setting_too(self):
        world = world_of(1, drift=(1, 10))
        world.tick(100)
        above, below = 12, 9
        for step in range(1, 6):
            # what it tells is cut by what it told, and the count begins anew
            world.set_clock(0, 0, before=50, behind=50)
            self.assertEqual(bounds_of(world), (91, 112 + step))
            self.assertEqual(world.told_wait(), above + step + below + 2)

    def test_a_tick_of_many_is_one(self):
        world = world_of(1, drift=(1, 3))
        world.pace(0, 0, (4, 3))
        world.tick(2)
        self.assertEqual(bounds_of(world), (2, 4))
        # at one tick it was (1, 2), at its making (0, 1)
        self.assertEqual(world.told_wait(), 4)


if __name__ == "__main__":
    unittest.main()
