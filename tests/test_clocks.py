import random
import unittest
from fractions import Fraction

from stampedwait.clocks import DRIFT, Clock
from stampedwait.errors import NoBounds, NoDrift, NoNumber, Unset
from stampedwait.times import least_passed, most_passed
from tests.things import BIG, ODD, Yielding

SURE = (0, 1)


def set_clock(low, high, drift=SURE, ticks=0):
    clock = Clock(drift)
    clock.set_to(low, high)
    clock.tick(ticks)
    return clock


class Making(unittest.TestCase):
    def test_drift(self):
        self.assertEqual(DRIFT, (1, 100))
        self.assertEqual(Clock().drift(), (1, 100))
        for drift in [(0, 1), (1, 2), (999, 1000)]:
            self.assertEqual(Clock(drift).drift(), drift)
            self.assertEqual(Clock(drift=drift).drift(), drift)

    def test_what_is_no_drift_is_refused(self):
        for thing in ODD + [(1, 1), (0, 2), (2, 4), (3, 2), (1, 1001), (-1, 2), [1, 100], 0, BIG]:
            with self.assertRaises(NoDrift):
                Clock(thing)

    def test_new_one_is_not_set(self):
        clock = Clock()
        self.assertIs(clock.is_set(), False)
        self.assertIsNone(clock.set_to(1, 2))
        self.assertIs(clock.is_set(), True)


class Unsettled(unittest.TestCase):
    def test_unset_tells_nothing(self):
        for ticks in (0, 1, 1000):
            clock = Clock()
            clock.tick(ticks)
            self.assertIs(clock.is_set(), False)
            for ask in (clock.bounds, lambda: clock.is_past(0), lambda: clock.is_ahead(0)):
                with self.assertRaises(Unset):
                    ask()

    def test_twin_of_an_unset_one_is_unset(self):
        with self.assertRaises(Unset):
            Clock().twin().bounds()

    def test_a_count_ahead_of_setting_is_forgotten_by_it(self):
        clock = Clock(SURE)
        clock.tick(50)
        clock.set_to(3, 4)
        self.assertEqual(clock.bounds(), (3, 4))
        self.assertEqual(clock, set_clock(3, 4))


class Counting(unittest.TestCase):
    def test_bounds_by_count(self):
        for drift in [(0, 1), (1, 100), (1, 2), (999, 1000)]:
            for low, high in [(0, 0), (5, 9), (-20, -3), (-BIG, BIG)]:
                clock = set_clock(low, high, drift)
                count = 0
                for many in (0, 1, 1, 5, 100, 10 ** 29):
                    clock.tick(many)
                    count += many
                    told = (low + least_passed(count, drift), high + most_passed(count, drift))
                    self.assertEqual(clock.bounds(), told)

    def test_some_by_hand(self):
        self.assertEqual(set_clock(10, 20, (1, 100)).bounds(), (10, 21))
        self.assertEqual(set_clock(10, 20, (1, 100), 101).bounds(), (110, 123))
        self.assertEqual(set_clock(-10, -5, SURE, 3).bounds(), (-7, -2))
        self.assertEqual(set_clock(0, 0, (999, 1000)).bounds(), (0, 999))
        self.assertIsInstance(set_clock(0, 0).bounds(), tuple)

    def test_one_tick_where_none_is_told(self):
        clock = set_clock(0, 0)
        self.assertIsNone(clock.tick())
        self.assertEqual(clock.bounds(), (1, 1))
        clock.tick(many=4)
        self.assertEqual(clock.bounds(), (5, 5))

    def test_parts_are_counted_together(self):
        once, often = set_clock(0, 0, (1, 3), 60), set_clock(0, 0, (1, 3))
        for step in range(60):
            often.tick()
        self.assertEqual(once, often)
        self.assertEqual(once.bounds(), often.bounds())

    def test_what_is_no_number_from_0_on_is_refused(self):
        clock, unset = set_clock(4, 7, DRIFT, 3), Clock()
        before = clock.twin()
        for thing in ODD + [-1, -BIG, "1", (1,)]:
            for one in (clock, unset):
                with self.assertRaises(NoNumber):
                    one.tick(thing)
        self.assertEqual(clock, before)
        self.assertEqual(unset, Clock())


class Setting(unittest.TestCase):
    def test_wrong_bounds_are_refused_with_both_as_fields(self):
        clock, unset = set_clock(0, 100), Clock()
        pairs = [(thing, 5) for thing in ODD] + [(5, thing) for thing in ODD]
        pairs += [(thing, thing) for thing in ODD] + [(6, 5), (0, -1), (BIG, -BIG), ([1], (2,))]
        for low, high in pairs:
            for one in (clock, unset):
                with self.assertRaises(NoBounds) as caught:
                    one.set_to(low, high)
                self.assertIs(caught.exception.low, low)
                self.assertIs(caught.exception.high, high)
        self.assertEqual(clock, set_clock(0, 100))
        self.assertEqual(unset, Clock())
        self.assertIs(unset.is_set(), False)

    def test_set_anew(self):
        rows = [
            ((12, 15), (12, 15)), ((0, 100), (10, 20)), ((10, 20), (10, 20)), ((0, 15), (10, 15)),
            ((15, 100), (15, 20)), ((20, 100), (20, 20)), ((-5, 10), (10, 10)),
            ((20, 20), (20, 20)), ((10, 10), (10, 10)), ((-BIG, BIG), (10, 20))]
        for (low, high), told in rows:
            clock = set_clock(5, 15, SURE, 5)
            self.assertIsNone(clock.set_to(low, high))
            self.assertEqual(clock.bounds(), told)
            self.assertEqual(clock, set_clock(*told))

    def test_without_a_time_in_common_is_refused(self):
        for low, high in [(21, 21), (21, 30), (9, 9), (0, 9), (-BIG, -5), (BIG, BIG)]:
            clock = set_clock(5, 15, SURE, 5)
            with self.assertRaises(NoBounds) as caught:
                clock.set_to(low, high)
            self.assertEqual((caught.exception.low, caught.exception.high), (low, high))
            self.assertEqual(clock, set_clock(5, 15, SURE, 5))
            self.assertEqual(clock.bounds(), (10, 20))

    def test_set_anew_against_what_it_tells_not_what_it_stands_set_to(self):
        clock = set_clock(0, 0, DRIFT)
        clock.set_to(1, 1)
        self.assertEqual(clock.bounds(), (1, 2))
        clock = set_clock(0, 0, DRIFT)
        clock.set_to(-5, 5)
        self.assertEqual(clock.bounds(), (0, 2))
        clock = set_clock(0, 0, DRIFT)
        with self.assertRaises(NoBounds):
            clock.set_to(2, 2)

    def test_count_begins_anew(self):
        clock = set_clock(0, 0, (1, 2), 10)
        self.assertEqual(clock.bounds(), (7, 21))
        clock.set_to(9, 12)
        clock.tick(2)
        self.assertEqual(clock.bounds(), (9 + 2, 12 + 5))

    def test_by_names(self):
        clock = Clock()
        clock.set_to(high=9, low=4)
        self.assertEqual(clock.bounds(), (4, 10))


class PastAndAhead(unittest.TestCase):
    def test_at_the_bounds_and_beside(self):
        for clock in (set_clock(10, 20), set_clock(-90, -80, SURE, 100)):
            past = {time: clock.is_past(time) for time in range(8, 23)}
            ahead = {time: clock.is_ahead(time) for time in range(8, 23)}
            self.assertEqual(past, {time: time < 10 for time in range(8, 23)})
            self.assertEqual(ahead, {time: time > 20 for time in range(8, 23)})

    def test_below_0(self):
        clock = set_clock(-10, -5)
        self.assertEqual([clock.is_past(time) for time in (-11, -10, -9)], [True, False, False])
        self.assertEqual([clock.is_ahead(time) for time in (-6, -5, -4, 0)], [False, False, True, True])

    def test_by_what_it_tells_now(self):
        clock = set_clock(0, 0, DRIFT)
        self.assertIs(clock.is_ahead(1), False)
        self.assertIs(clock.is_ahead(2), True)
        clock.tick(2)
        self.assertIs(clock.is_past(1), True)
        self.assertIs(clock.is_past(2), False)

    def test_by_names(self):
        clock = set_clock(10, 20)
        self.assertIs(clock.is_past(time=9), True)
        self.assertIs(clock.is_ahead(time=21), True)


class Likeness(unittest.TestCase):
    def test_alike(self):
        self.assertTrue(Clock() == Clock())
        self.assertFalse(Clock() != Clock((1, 100)))
        self.assertTrue(set_clock(1, 5, (1, 2), 7) == set_clock(1, 5, (1, 2), 7))

    def test_unlike(self):
        unset = Clock(SURE)
        unset.tick()
        clocks = [
            Clock(SURE), Clock((1, 2)), unset, set_clock(0, 0), set_clock(0, 1), set_clock(-1, 0),
            set_clock(0, 0, (1, 2)), set_clock(0, 0, SURE, 1), set_clock(1, 1)]
        for at, clock in enumerate(clocks):
            for other_at, other in enumerate(clocks):
                self.assertIs(clock == other, at == other_at, (at, other_at))
                self.assertIs(clock != other, at != other_at)

    def test_the_same_bounds_are_not_enough(self):
        self.assertEqual(set_clock(1, 1).bounds(), set_clock(0, 0, SURE, 1).bounds())
        self.assertFalse(set_clock(1, 1) == set_clock(0, 0, SURE, 1))

    def test_unlike_to_all_else(self):
        clock = set_clock(0, 0)
        for thing in ODD + [(0, 0), 0, (0, 1), "clock", Yielding(), Clock]:
            self.assertIs(clock == thing, False)
            self.assertIs(clock != thing, True)


class Twins(unittest.TestCase):
    def test_each_goes_on_by_itself(self):
        clock = set_clock(0, 10, (1, 2), 4)
        twin = clock.twin()
        self.assertIsInstance(twin, Clock)
        self.assertEqual(twin, clock)
        twin.tick(3)
        self.assertEqual(clock, set_clock(0, 10, (1, 2), 4))
        self.assertEqual(twin, set_clock(0, 10, (1, 2), 7))
        clock.set_to(5, 6)
        self.assertEqual(clock, set_clock(5, 6, (1, 2)))
        self.assertEqual(twin, set_clock(0, 10, (1, 2), 7))

    def test_of_an_unset_one(self):
        clock = Clock()
        clock.tick(9)
        twin = clock.twin()
        self.assertEqual(twin, clock)
        twin.set_to(1, 1)
        self.assertIs(clock.is_set(), False)
        self.assertNotEqual(twin, clock)


class Driven:
    """A clock beside the true time, counting the whole part of what its pace makes."""

    def __init__(self, drift, true):
        self.drift, self.true = Fraction(*drift), true
        self.clock, self.part = Clock(drift), Fraction(0)

    def set(self, before, behind):
        self.clock.set_to(self.true - before, self.true + behind)
        self.part = Fraction(0)

    def go(self, pace, many=1):
        self.true += many
        self.part += pace * many
        self.clock.tick(int(self.part))
        self.part -= int(self.part)


class TrueTime(unittest.TestCase):
    def check(self, driven, low):
        told = driven.clock.bounds()
        self.assertLessEqual(told[0], driven.true)
        self.assertGreaterEqual(told[1], driven.true)
        self.assertGreaterEqual(told[0], low)
        return told[0]

    def test_held_at_steady_paces(self):
        for drift in [(0, 1), (1, 100), (1, 2), (99, 100), (999, 1000)]:
            for pace in (1 - Fraction(*drift), Fraction(1), 1 + Fraction(*drift)):
                for true in (-500, 0):
                    driven = Driven(drift, true)
                    driven.set(0, 0)
                    low = self.check(driven, true)
                    for step in range(1200):
                        driven.go(pace)
                        low = self.check(driven, low)

    def test_held_at_changing_paces_and_settings(self):
        chance = random.Random(6)
        for drift in [(0, 1), (1, 100), (1, 3), (999, 1000)]:
            for run in range(30):
                driven = Driven(drift, chance.randint(-50, 50))
                driven.set(chance.randint(0, 9), chance.randint(0, 9))
                low = self.check(driven, -1000)
                for step in range(120):
                    share = Fraction(chance.randint(-1000, 1000), 1000)
                    driven.go(1 + share * driven.drift, chance.choice((1, 1, 2, 30)))
                    low = self.check(driven, low)
                    if chance.random() < 0.1:
                        driven.set(chance.randint(0, 9), chance.randint(0, 9))
                        low = self.check(driven, low)


if __name__ == "__main__":
    unittest.main()
