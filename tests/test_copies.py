import random
import unittest
from fractions import Fraction

from stampedwait.clocks import Clock
from stampedwait.copies import LEASE, Copies
from stampedwait.errors import NoBounds, NoCopy, NoDrift, NoHead, NoNumber, Unset
from tests.things import BIG, ODD

SURE = (0, 1)


def made(many=3, low=0, high=0, lease=LEASE, drift=SURE, unset=()):
    copies = Copies(many, drift=drift, lease=lease)
    for copy in range(many):
        if copy not in unset:
            copies.set_clock(copy, low, high)
    return copies


def tick_all(copies, many):
    for copy in range(len(copies)):
        copies.tick_clock(copy, many)


def seen(copies):
    numbers = range(len(copies))
    return (copies.reign(), copies.head(), copies.heads(), copies.book(),
            [copies.book(copy) for copy in numbers], [copies.is_up(copy) for copy in numbers],
            [copies.clock(copy) for copy in numbers])


class Case(unittest.TestCase):
    def refused(self, copies, deed, *things):
        was = seen(copies)
        with self.assertRaises(NoHead) as caught:
            deed(*things)
        self.assertIsNone(caught.exception.house)
        self.assertEqual(seen(copies), was)


class Making(unittest.TestCase):
    def test_how_many(self):
        self.assertEqual(len(Copies()), 3)
        for many in range(1, 6):
            self.assertEqual(len(Copies(many)), many)
            self.assertEqual(len(Copies(many=many)), many)

    def test_what_is_no_number_of_copies(self):
        for thing in ODD + [0, 6, -1, BIG, -BIG]:
            with self.assertRaises(NoNumber):
                Copies(thing)

    def test_lease(self):
        self.assertEqual(LEASE, 20)
        for lease in (1, 20, 1000):
            copies = made(1, lease=lease)
            copies.choose(0)
            copies.tick_clock(0, lease - 1)
            self.assertEqual(copies.head(), 0)
            copies.tick_clock(0)
            self.assertIsNone(copies.head())
        copies = made(1)
        copies.choose(0)
        copies.tick_clock(0, 19)
        self.assertEqual(copies.heads(), [0])
        copies.tick_clock(0)
        self.assertEqual(copies.heads(), [])

    def test_what_is_no_lease(self):
        for thing in ODD + [0, 1001, -1, BIG, -BIG]:
            with self.assertRaises(NoNumber):
                Copies(1, lease=thing)

    def test_drift(self):
        self.assertEqual(Copies().clock(0).drift(), (1, 100))
        copies = Copies(2, drift=(1, 2))
        self.assertEqual([copies.clock(copy).drift() for copy in (0, 1)], [(1, 2), (1, 2)])
        for thing in ODD + [(1, 1), (2, 4), 0]:
            with self.assertRaises(NoDrift):
                Copies(2, drift=thing)

    def test_drift_and_lease_by_their_names_alone(self):
        with self.assertRaises(TypeError):
            Copies(2, SURE)

    def test_new_ones(self):
        copies = Copies(4)
        self.assertEqual(seen(copies), (0, None, [], [], [[]] * 4, [True] * 4, [Clock()] * 4))


class NoCopies(unittest.TestCase):
    def test_of_anything_ahead_of_all_else(self):
        copies = made(3)
        for thing in ODD + [-1, 3, BIG, -BIG]:
            deeds = [lambda: copies.set_clock(thing, 5, 4), lambda: copies.set_clock(thing, None, 4),
                     lambda: copies.tick_clock(thing, -1), lambda: copies.tick_clock(thing),
                     lambda: copies.stop(thing), lambda: copies.back(thing), lambda: copies.choose(thing),
                     lambda: copies.catch_up(thing), lambda: copies.clock(thing), lambda: copies.is_up(thing)]
            if thing is not None:
                deeds.append(lambda: copies.book(thing))
            was = seen(copies)
            for deed in deeds:
                with self.assertRaises(NoCopy) as caught:
                    deed()
                self.assertIs(caught.exception.copy, thing)
            self.assertEqual(seen(copies), was)


class Clocks(unittest.TestCase):
    def test_each_by_itself(self):
        copies = Copies(3, drift=SURE)
        self.assertIsNone(copies.set_clock(1, 10, 20))
        self.assertIsNone(copies.tick_clock(1))
        self.assertIsNone(copies.tick_clock(1, 4))
        self.assertEqual(copies.clock(1).bounds(), (15, 25))
        self.assertFalse(copies.clock(0).is_set())
        with self.assertRaises(Unset):
            copies.clock(2).bounds()

    def test_by_names(self):
        copies = Copies(many=2, drift=SURE, lease=5)
        copies.set_clock(copy=0, low=1, high=2)
        copies.tick_clock(copy=0, many=3)
        self.assertEqual(copies.clock(copy=0).bounds(), (4, 5))
        copies.stop(copy=1)
        self.assertFalse(copies.is_up(copy=1))
        copies.back(copy=1)
        copies.set_clock(copy=1, low=1, high=2)
        self.assertEqual(copies.choose(copy=0), -1)
        copies.write(entry=("off", 1))
        copies.catch_up(copy=1)
        self.assertEqual(copies.book(copy=1), [("off", 1)])

    def test_refusals_of_clocks(self):
        copies = made(2, 5, 9)
        with self.assertRaises(NoBounds) as caught:
            copies.set_clock(0, 10, 12)
        self.assertEqual((caught.exception.low, caught.exception.high), (10, 12))
        for thing in ODD + [-1]:
            with self.assertRaises(NoNumber):
                copies.tick_clock(0, thing)
        self.assertEqual(copies.clock(0).bounds(), (5, 9))

    def test_a_clock_told_is_a_twin(self):
        copies = made(1, 5, 9)
        clock = copies.clock(0)
        clock.tick(100)
        self.assertEqual(copies.clock(0).bounds(), (5, 9))
        copies.tick_clock(0)
        self.assertEqual(clock.bounds(), (105, 109))

    def test_a_stopped_ones_clock_goes_on(self):
        copies = made(1)
        copies.stop(0)
        copies.tick_clock(0, 7)
        self.assertEqual(copies.clock(0).bounds(), (7, 7))


class Stopping(Case):
    def test_stopped_and_called_back_once_and_again(self):
        copies = made(3)
        for up in (False, False):
            self.assertIsNone(copies.stop(1))
            self.assertIs(copies.is_up(1), up)
        for up in (True, True):
            self.assertIsNone(copies.back(1))
            self.assertIs(copies.is_up(1), up)
        self.assertTrue(copies.is_up(0) and copies.is_up(2))

    def test_it_comes_back_with_its_book(self):
        copies = made(3)
        copies.choose(0)
        copies.write("first")
        copies.stop(1)
        copies.write("second")
        copies.back(1)
        self.assertEqual(copies.book(1), ["first"])
        self.assertEqual(copies.book(2), ["first", "second"])

    def test_a_stopped_head_is_none_also_when_it_is_back(self):
        copies = made(3)
        copies.choose(0)
        copies.stop(0)
        self.assertEqual((copies.head(), copies.heads()), (None, []))
        copies.back(0)
        self.assertEqual((copies.head(), copies.heads()), (None, []))
        self.refused(copies, copies.choose, 0)
        self.refused(copies, copies.renew)
        self.refused(copies, copies.write, "x")

    def test_another_ones_stopping_leaves_the_head(self):
        copies = made(3)
        copies.choose(0)
        copies.stop(1)
        copies.stop(2)
        self.assertEqual(copies.head(), 0)

    def test_it_comes_back_with_its_promise(self):
        copies = made(3)
        copies.choose(0)
        copies.stop(1)
        copies.back(1)
        self.refused(copies, copies.choose, 1)


class Choosing(Case):
    def test_first_one(self):
        for many in range(1, 6):
            copies = made(many)
            self.assertEqual(copies.choose(many - 1), -1)
            self.assertEqual((copies.head(), copies.heads(), copies.reign()), (many - 1, [many - 1], 1))

    def test_it_is_up(self):
        copies = made(3)
        copies.stop(1)
        self.refused(copies, copies.choose, 1)
        self.assertEqual(copies.choose(0), -1)

    def test_more_than_half_of_all_are_up(self):
        for many, most in [(1, 0), (2, 0), (3, 1), (4, 1), (5, 2)]:
            copies = made(many)
            for copy in range(most + 1):
                copies.stop(copy)
            if most + 1 < many:
                self.refused(copies, copies.choose, many - 1)
            copies.back(0)
            self.assertEqual(copies.choose(many - 1), -1)

    def test_clocks_never_set_can_not_promise(self):
        copies = made(3, unset=(0, 1))
        self.refused(copies, copies.choose, 2)
        self.refused(copies, copies.choose, 0)
        copies.tick_clock(1, 50)
        self.refused(copies, copies.choose, 2)
        copies.set_clock(1, 0, 0)
        self.refused(copies, copies.choose, 0)
        self.assertEqual(copies.choose(2), -1)

    def test_promises_must_surely_be_past_by_each_ones_own_clock(self):
        copies = made(3)
        copies.choose(0)
        self.refused(copies, copies.choose, 0)
        self.refused(copies, copies.choose, 1)
        tick_all(copies, 20)
        self.refused(copies, copies.choose, 1)
        copies.tick_clock(1)
        self.refused(copies, copies.choose, 1)
        copies.tick_clock(2)
        self.refused(copies, copies.choose, 0)
        self.assertEqual(copies.choose(1), 20)
        self.assertEqual((copies.head(), copies.reign()), (1, 2))

    def test_the_lower_bound_counts_for_past(self):
        copies = made(1, 0, 5)
        copies.choose(0)
        copies.tick_clock(0, 25)
        self.assertEqual(copies.clock(0).bounds(), (25, 30))
        self.refused(copies, copies.choose, 0)
        copies.tick_clock(0)
        self.assertEqual(copies.choose(0), 25)

    def test_promised_is_the_chosen_ones_high_and_the_lease(self):
        copies = made(2, unset=(0, 1), lease=7)
        copies.set_clock(0, 0, 3)
        copies.set_clock(1, 0, 50)
        copies.choose(0)
        copies.set_clock(0, 0, 0)
        copies.tick_clock(0, 9)
        self.assertEqual(copies.head(), 0)
        copies.tick_clock(0)
        self.assertIsNone(copies.head())
        copies.tick_clock(0)
        copies.tick_clock(1, 11)
        self.assertEqual(copies.choose(1), 10)
        self.assertIsNone(copies.renew())
        copies.tick_clock(0, 100)
        copies.tick_clock(1, 100)
        self.assertEqual(copies.choose(0), 68)

    def test_all_that_can_promise_do_not_those_that_are_not_up(self):
        copies = made(5)
        copies.stop(3)
        copies.stop(4)
        copies.choose(0)
        tick_all(copies, 10)
        copies.back(3)
        copies.back(4)
        copies.stop(0)
        self.refused(copies, copies.choose, 3)
        for copy in (1, 2):
            copies.tick_clock(copy, 11)
        # 3 and 4 promised nothing, 1 and 2 till 20
        self.assertEqual(copies.choose(3), 20)

    def test_floor_is_the_greatest_promised_ahead(self):
        copies = made(3)
        copies.stop(2)
        self.assertEqual(copies.choose(0), -1)
        tick_all(copies, 21)
        copies.back(2)
        copies.stop(0)
        self.assertEqual(copies.choose(2), 20)
        tick_all(copies, 21)
        copies.back(0)
        copies.stop(1)
        # 0 promised till 20, 2 till 41
        self.assertEqual(copies.choose(0), 41)

    def test_floor_of_times_below_nought(self):
        copies = made(1, -100, -100)
        self.assertEqual(copies.choose(0), -1)
        copies.tick_clock(0, 21)
        self.assertEqual(copies.choose(0), -80)
        both = made(3, -100, -100)
        both.stop(2)
        both.choose(0)
        tick_all(both, 21)
        both.back(2)
        self.assertEqual(both.choose(1), -1)

    def test_reigns_are_counted_from_1(self):
        copies = made(1)
        for reign in range(1, 5):
            copies.choose(0)
            self.assertEqual(copies.reign(), reign)
            with self.assertRaises(NoHead):
                copies.choose(0)
            copies.tick_clock(0, 21)
            self.assertEqual(copies.reign(), reign)

    def test_it_takes_over_the_longest_book(self):
        copies = made(3)
        copies.choose(0)
        copies.write("first")
        copies.stop(1)
        copies.write("second")
        copies.stop(0)
        copies.back(1)
        tick_all(copies, 21)
        self.assertEqual(copies.book(1), ["first"])
        copies.choose(1)
        self.assertEqual(copies.book(1), ["first", "second"])
        self.assertEqual(copies.book(0), ["first", "second"])

    def test_others_stay_behind(self):
        copies = made(3)
        copies.stop(2)
        copies.choose(0)
        copies.write("first")
        copies.back(2)
        tick_all(copies, 21)
        copies.choose(1)
        self.assertEqual(copies.book(2), [])


class Heads(unittest.TestCase):
    def test_till_the_time_promised_is_surely_ahead_no_more(self):
        copies = made(3, 0, 4)
        copies.choose(1)
        copies.tick_clock(1, 19)
        self.assertEqual(copies.head(), 1)
        copies.tick_clock(1)
        self.assertEqual((copies.head(), copies.heads()), (None, []))

    def test_by_its_own_clock_alone(self):
        copies = made(3)
        copies.choose(1)
        copies.tick_clock(0, 100)
        copies.tick_clock(2, 100)
        self.assertEqual((copies.head(), copies.heads()), (1, [1]))

    def test_a_clock_set_anew_makes_it_head_again(self):
        copies = made(1, 0, 15)
        copies.choose(0)
        copies.tick_clock(0, 20)
        self.assertIsNone(copies.head())
        copies.set_clock(0, 20, 30)
        self.assertEqual((copies.head(), copies.reign()), (0, 1))

    def test_two_where_clocks_are_not_right(self):
        copies = made(3)
        copies.choose(0)
        copies.tick_clock(1, 30)
        copies.tick_clock(2, 30)
        copies.choose(1)
        self.assertEqual((copies.head(), copies.heads()), (1, [0, 1]))
        copies.stop(1)
        self.assertEqual((copies.head(), copies.heads()), (None, [0]))


class Renewing(Case):
    def test_longer(self):
        copies = made(3)
        copies.choose(0)
        tick_all(copies, 10)
        self.assertIsNone(copies.renew())
        self.assertEqual(copies.reign(), 1)
        tick_all(copies, 19)
        self.assertEqual(copies.head(), 0)
        tick_all(copies, 1)
        self.assertIsNone(copies.head())
        self.refused(copies, copies.choose, 1)
        tick_all(copies, 1)
        self.assertEqual(copies.choose(1), 30)

    def test_without_a_head(self):
        copies = made(3)
        self.refused(copies, copies.renew)
        copies.choose(0)
        tick_all(copies, 20)
        self.refused(copies, copies.renew)

    def test_never_shorter(self):
        copies = made(1, 0, 15)
        copies.choose(0)
        copies.set_clock(0, 3, 3)
        copies.renew()
        copies.tick_clock(0, 31)
        self.assertEqual(copies.head(), 0)
        copies.tick_clock(0)
        self.assertIsNone(copies.head())

    def test_those_that_promised_in_this_reign_and_are_up(self):
        copies = made(3)
        copies.choose(0)
        tick_all(copies, 10)
        copies.stop(1)
        copies.renew()
        copies.stop(2)
        self.refused(copies, copies.renew)
        copies.back(1)
        tick_all(copies, 5)
        copies.renew()
        tick_all(copies, 36 - 15)
        self.assertIsNone(copies.head())
        self.assertEqual(copies.choose(1), 35)

    def test_those_that_could_promise_anew(self):
        copies = made(3)
        copies.stop(2)
        copies.choose(0)
        tick_all(copies, 5)
        copies.stop(1)
        copies.back(2)
        copies.renew()
        tick_all(copies, 16)
        # 2 promised by the renewing till 25, 1 till 20 alone
        copies.back(1)
        copies.stop(0)
        self.refused(copies, copies.choose, 2)
        tick_all(copies, 5)
        self.assertEqual(copies.choose(2), 25)

    def test_not_those_bound_by_another_reign(self):
        copies = made(3, lease=100)
        copies.choose(0)
        copies.tick_clock(1, 101)
        copies.stop(0)
        copies.tick_clock(2, 101)
        copies.choose(1)
        copies.stop(2)
        copies.back(0)
        # 0 is bound by the first reign till 100 by its clock
        self.refused(copies, copies.renew)
        copies.tick_clock(0, 101)
        copies.renew()

    def test_not_those_whose_clock_was_never_set(self):
        copies = made(3, unset=(2,))
        copies.choose(0)
        copies.stop(1)
        self.refused(copies, copies.renew)
        copies.set_clock(2, 0, 0)
        copies.renew()


class Books(Case):
    def test_an_entry_of_any_kind_goes_to_those_up_and_not_behind(self):
        copies = made(5)
        copies.choose(0)
        copies.stop(4)
        entries = [("mark", 5), None, 7, "text", ["list", {"a": [1]}], {}, ("tuple", (1, [2]))]
        for entry in entries:
            self.assertIsNone(copies.write(entry))
        self.assertEqual(copies.book(), entries)
        self.assertEqual(copies.book(4), [])
        copies.back(4)
        copies.write("more")
        self.assertEqual(copies.book(4), [])
        for copy in range(4):
            self.assertEqual(copies.book(copy), entries + ["more"])

    def test_without_so_many(self):
        for many, most in [(1, 0), (2, 0), (3, 1), (4, 1), (5, 2)]:
            copies = made(many)
            copies.choose(many - 1)
            for copy in range(most):
                copies.stop(copy)
            copies.write("first")
            if most + 1 < many:
                copies.stop(most)
                self.refused(copies, copies.write, "second")
                copies.back(most)
                copies.write("second")
                # those that are up but behind do not count
                copies.stop(most)
                for copy in range(most):
                    copies.back(copy)
                if most:
                    self.refused(copies, copies.write, "third")

    def test_without_a_head(self):
        copies = made(3)
        self.refused(copies, copies.write, "x")
        copies.choose(0)
        tick_all(copies, 20)
        self.refused(copies, copies.write, "x")
        self.refused(copies, copies.catch_up, 0)

    def test_given_the_heads_book(self):
        copies = made(3)
        copies.choose(0)
        copies.stop(1)
        copies.write("first")
        copies.write("second")
        self.refused(copies, copies.catch_up, 1)
        copies.back(1)
        self.assertIsNone(copies.catch_up(1))
        self.assertEqual(copies.book(1), ["first", "second"])
        self.assertIsNone(copies.catch_up(2))
        self.assertIsNone(copies.catch_up(0))
        copies.write("third")
        self.assertEqual(copies.book(1), ["first", "second", "third"])

    def test_one_that_is_not_behind_must_be_up_too(self):
        copies = made(3)
        copies.choose(0)
        copies.stop(1)
        self.refused(copies, copies.catch_up, 1)

    def test_what_is_handed_in_is_not_kept(self):
        copies = made(1)
        copies.choose(0)
        entry = [1, {"a": [2]}, ([3],)]
        copies.write(entry)
        entry[1]["a"].append(9)
        entry[2][0].append(9)
        entry.append(9)
        self.assertEqual(copies.book(), [[1, {"a": [2]}, ([3],)]])

    def test_what_is_told_is_the_askers_own(self):
        copies = made(2)
        copies.choose(0)
        copies.write([1, {"a": [2]}, ([3],)])
        for told in (copies.book(), copies.book(0), copies.book(1), copies.book(copy=None)):
            told[0][1]["a"].append(9)
            told[0][2][0].append(9)
            told[0].append(9)
            told.append(9)
            self.assertEqual(copies.book(), [[1, {"a": [2]}, ([3],)]])
            self.assertEqual(copies.book(1), copies.book())
        before = copies.book()
        copies.write("more")
        self.assertEqual(len(before), 1)
        heads = copies.heads()
        heads.append(1)
        self.assertEqual(copies.heads(), [0])


class Twins(unittest.TestCase):
    def test_each_goes_on_by_itself(self):
        first = made(3, lease=5)
        first.stop(2)
        first.choose(0)
        first.write("first")
        twin = first.twin()
        self.assertIsInstance(twin, Copies)
        was = seen(first)
        self.assertEqual(seen(twin), was)
        twin.write("other")
        twin.back(2)
        twin.catch_up(2)
        tick_all(twin, 6)
        self.assertEqual(twin.choose(1), 5)
        twin.stop(0)
        self.assertEqual(seen(first), was)
        later = seen(twin)
        first.write("second")
        first.tick_clock(0, 3)
        first.renew()
        first.stop(0)
        self.assertEqual(seen(twin), later)

    def test_promises_and_lease_go_along(self):
        first = made(3, lease=5)
        first.choose(0)
        twin = first.twin()
        with self.assertRaises(NoHead):
            twin.choose(1)
        twin.renew()
        tick_all(twin, 4)
        self.assertEqual(twin.head(), 0)
        tick_all(twin, 1)
        self.assertIsNone(twin.head())
        self.assertEqual(first.head(), 0)

    def test_drift_goes_along(self):
        twin = Copies(2, drift=(1, 2)).twin()
        self.assertEqual(twin.clock(1).drift(), (1, 2))
        self.assertEqual(len(twin), 2)


class Drifting(unittest.TestCase):
    """While true time goes on, and clocks by paces within their drift."""

    def run_once(self, chance):
        many = chance.randrange(1, 6)
        drift = chance.choice([(0, 1), (1, 100), (1, 4), (1, 2)])
        copies = Copies(many, drift=drift, lease=chance.choice([1, 5, 20]))
        true = 0
        left = [Fraction(0)] * many
        chosen = 0
        for step in range(150):
            copy = chance.randrange(many)
            deed = chance.randrange(9)
            try:
                if deed <= 2:
                    ticks = chance.randrange(1, 8)
                    true += ticks
                    for each in range(many):
                        share = Fraction(*drift) * chance.randrange(-10, 11) / 10
                        counted = left[each] + ticks * (1 + share)
                        copies.tick_clock(each, int(counted))
                        left[each] = counted - int(counted)
                elif deed == 3:
                    copies.set_clock(copy, true - chance.randrange(4), true + chance.randrange(4))
                    left[copy] = Fraction(0)
                elif deed == 4:
                    copies.choose(copy)
                    chosen += 1
                elif deed == 5:
                    copies.renew()
                elif deed == 6:
                    chance.choice([copies.stop, copies.back, copies.back])(copy)
                elif deed == 7:
                    copies.write(step)
                else:
                    copies.catch_up(copy)
            except NoHead:
                pass
            self.check(copies, true)
        return chosen

    def check(self, copies, true):
        book = copies.book()
        for copy in range(len(copies)):
            own = copies.book(copy)
            self.assertEqual(book[:len(own)], own)
            if copies.clock(copy).is_set():
                low, high = copies.clock(copy).bounds()
                self.assertTrue(low <= true <= high)
        self.assertLessEqual(len(copies.heads()), 1)
        self.assertEqual(copies.heads(), [] if copies.head() is None else [copies.head()])
        if copies.head() is not None:
            self.assertEqual(copies.book(copies.head()), book)

    def test_never_two_heads_and_books_are_beginnings(self):
        chance = random.Random(10)
        chosen = [self.run_once(chance) for run in range(60)]
        self.assertGreater(sum(chosen), 100)


if __name__ == "__main__":
    unittest.main()
