"""Worths read at times, marks, and letting go."""

import unittest

from stampedwait.errors import Early, Elsewhere, Gone, NoCopy, NoHead, NoNumber, Waits
from tests.made import Case, book, ended, house_of, pledged, reign_anew, seen, tick_all
from tests.things import BIG, ODD


def stocked(copies=3):
    """House 0 of 3 with worths of "a" from 10 and 20 on, of "d" from 30 on; its clocks tell from 40 to 50."""
    house = house_of(houses=3, copies=copies, low=0, high=10)
    ended(house, 1, 10, (("a", (1,)),))
    ended(house, 2, 20, (("a", (2, 2)),))
    ended(house, 3, 30, (("d", (3,)),))
    tick_all(house, 40)
    return house


class ByTheHead(Case):
    def test_worths_at_times(self):
        house = stocked()
        self.assertEqual([house.read("a", time) for time in (-5, 9, 10, 19, 20, 50)],
                         [None, None, (1,), (1,), (2, 2), (2, 2)])
        self.assertEqual([house.look("d", time) for time in (29, 30)], [None, (3,)])
        self.assertIsNone(house.read("g", 50))

    def test_by_names(self):
        house = stocked()
        self.assertEqual(house.read(key="a", time=50, copy=None), (2, 2))
        self.assertEqual(house.look(key="a", time=50, copy=0), (2, 2))
        self.assertIsNone(house.rise(time=30, copy=None))
        with self.assertRaises(TypeError):
            house.read("a", 50, 0)

    def test_the_floor_becomes_the_time(self):
        house = stocked()
        self.assertEqual(house.floor(), -1)
        for time, floor in ((5, 5), (30, 30), (20, 30), (50, 50)):
            house.read("a", time)
            self.assertEqual(house.floor(), floor)

    def test_a_look_leaves_the_floor(self):
        house = stocked()
        for copy in (None, 0, 1):
            self.unchanged(house, lambda: house.look("a", 25, copy=copy))

    def test_rise(self):
        house = stocked()
        self.assertIsNone(house.rise(25))
        self.assertEqual(house.floor(), 25)
        house.rise(20)
        self.assertEqual(house.floor(), 25)
        house.rise(30, copy=0)
        self.assertEqual(house.floor(), 30)
        self.unchanged(house, lambda: house.rise(35, copy=1))

    def test_the_heads_number_is_as_no_copy(self):
        house = stocked()
        self.assertEqual(house.read("a", 45, copy=0), (2, 2))
        self.assertEqual(house.floor(), 45)
        self.refused(house, Early, lambda: house.read("a", 51, copy=0), time=51)

    def test_no_number_of_anything(self):
        house = stocked()
        nobody = house_of(head=None)
        for thing in ODD:
            for each in (house, nobody):
                for deed in (lambda: each.read("a", thing), lambda: each.look("a", thing),
                             lambda: each.read("a", thing, copy=0), lambda: each.look("a", thing, copy=0),
                             lambda: each.rise(thing), lambda: each.rise(thing, copy=0),
                             lambda: each.let_go(thing)):
                    with self.assertRaises(NoNumber):
                        deed()

    def test_early(self):
        house = stocked()
        for deed in (house.read, house.look):
            for time in (51, BIG):
                self.refused(house, Early, lambda: deed("a", time), time=time)
            self.assertEqual(deed("a", 50), (2, 2))

    def test_gone(self):
        house = stocked()
        house.let_go(25)
        for deed in (house.read, house.look):
            self.refused(house, Gone, lambda: deed("a", 24), time=25)
            self.assertEqual(deed("a", 25), (2, 2))

    def test_waits_for_pledged_and_sure_ones(self):
        house = stocked()
        pledged(house, 5, houses=(0, 1), reads=("a",))
        self.assertEqual(house.ledger().pledge_of(5)[4][0], 40)
        self.assertEqual(house.look("a", 39), (2, 2))
        for deed in (house.read, house.look):
            self.refused(house, Waits, lambda: deed("a", 40), time=40)
            self.refused(house, Waits, lambda: deed("g", 50), time=40)
        house.receive(("yes", 5, 1, 0, (45, 1, 1)))
        self.assertEqual(house.ledger().word(5), "sure")
        self.refused(house, Waits, lambda: house.read("a", 40), time=40)
        self.assertEqual(house.look("a", 39), (2, 2))
        tick_all(house, 11)
        house.tell(5)
        self.assertEqual(house.read("a", 61), (2, 2))

    def test_waits_for_the_least(self):
        house = stocked()
        pledged(house, 5)
        tick_all(house, 5)
        pledged(house, 6)
        self.refused(house, Waits, lambda: house.read("a", 50), time=40)
        house.give_up(5)
        self.refused(house, Waits, lambda: house.read("a", 50), time=45)
        house.give_up(6)
        self.assertEqual(house.read("a", 50), (2, 2))

    def test_waits_for_a_form_that_is_pledged(self):
        house = stocked()
        pledged(house, 5, more=("form", 60, 1))
        tick_all(house, 20)
        for time in (60, 65):
            self.refused(house, Waits, lambda: house.read("a", time), time=40)

    def test_elsewhere(self):
        house = stocked()
        for deed in (house.read, house.look):
            self.refused(house, Elsewhere, lambda: deed("b", 20), key="b", house=1)
            self.refused(house, Elsewhere, lambda: deed("c", 20), key="c", house=2)

    def test_elsewhere_at_that_time(self):
        house = stocked()
        ended(house, 5, 41, more=("move", "a", 2))
        ended(house, 6, 42, (("b", (8,)),), more=("move", "b", 0))
        self.assertEqual((house.look("a", 40), house.look("b", 42)), ((2, 2), (8,)))
        self.refused(house, Elsewhere, lambda: house.read("a", 41), key="a", house=2)
        self.refused(house, Elsewhere, lambda: house.read("b", 41), key="b", house=1)

    def test_as_its_form_then_is(self):
        house = stocked()
        ended(house, 5, 41, more=("form", 60, 1))
        ended(house, 6, 42, more=("form", 70, 3))
        tick_all(house, 40)
        self.assertEqual([house.read("a", time) for time in (59, 60, 69, 70)], [(2, 2), (2,), (2,), (2, 2, 0)])

    def test_order_of_refusals(self):
        house = stocked()
        house.let_go(25)
        pledged(house, 5)
        # Early ahead of Waits and Elsewhere; Gone, and Waits, ahead of Elsewhere
        self.refused(house, Early, lambda: house.read("b", 99), time=99)
        self.refused(house, Gone, lambda: house.read("b", 24), time=25)
        self.refused(house, Waits, lambda: house.read("b", 45), time=40)
        house.stop(0)
        self.refused(house, NoHead, lambda: house.read("b", 99), house=0)
        self.refused(house, NoHead, lambda: house.look("b", 24), house=0)
        self.refused(house, NoHead, lambda: house.rise(24), house=0)

    def test_gone_ahead_of_waits(self):
        house = stocked()
        pledged(house, 5)
        house.let_go(39)
        house.give_up(5)
        house.let_go(50)
        pledged(house, 6)
        self.refused(house, Gone, lambda: house.read("a", 45), time=50)

    def test_early_ahead_of_gone(self):
        house = stocked()
        house.let_go(50)
        for copy in range(3):
            house.set_clock(copy, 40, 42)
        self.refused(house, Early, lambda: house.read("a", 45), time=45)
        self.refused(house, Gone, lambda: house.read("a", 42), time=50)

    def test_needs_no_writing(self):
        house = stocked()
        house.stop(1)
        house.stop(2)
        self.assertEqual(house.read("a", 50), (2, 2))


class ByAnotherCopy(Case):
    def test_of_its_own_book(self):
        house = stocked()
        house.stop(2)
        ended(house, 5, 41, (("a", (9,)),))
        house.back(2)
        # its last stamp is 30, so that it knows of all up to 29
        self.assertEqual([house.read("a", time, copy=2) for time in (9, 10, 29)], [None, (1,), (2, 2)])
        self.refused(house, Waits, lambda: house.read("a", 30, copy=2), time=29)
        self.assertEqual(house.read("a", 40, copy=1), (2, 2))
        self.refused(house, Waits, lambda: house.look("a", 41, copy=1), time=40)
        house.catch_up(2)
        self.assertEqual(house.look("a", 40, copy=2), (2, 2))

    def test_the_floor_stays(self):
        house = stocked()
        self.assertEqual(self.unchanged(house, lambda: house.read("a", 29, copy=1)), (2, 2))

    def test_no_copy_of_anything_ahead_of_all_else(self):
        for house in (stocked(), house_of(copies=3, head=None)):
            for thing in ODD + [-1, 3, BIG]:
                if thing is None:
                    continue
                for time in (5, 99, "x", None, True):
                    for deed in (lambda: house.read("a", time, copy=thing), lambda: house.look("a", time, copy=thing),
                                 lambda: house.rise(time, copy=thing)):
                        with self.assertRaises(NoCopy) as caught:
                            deed()
                        self.assertIs(caught.exception.copy, thing)

    def test_that_is_not_up(self):
        house = stocked()
        house.stop(1)
        for deed in (house.read, house.look):
            self.refused(house, NoHead, lambda: deed("a", 5, copy=1), house=0)
            self.refused(house, NoHead, lambda: deed("b", 999, copy=1), house=0)

    def test_without_a_head(self):
        house = stocked()
        house.stop(0)
        self.assertEqual(house.read("a", 20, copy=1), (2, 2))
        self.refused(house, NoHead, lambda: house.read("a", 20, copy=0), house=0)
        house.back(0)
        self.assertEqual(self.unchanged(house, lambda: house.read("a", 20, copy=0)), (2, 2))

    def test_waits_by_its_safe_time(self):
        house = stocked()
        house.mark()
        self.assertEqual(house.look("a", 40, copy=1), (2, 2))
        self.refused(house, Waits, lambda: house.look("a", 41, copy=1), time=40)
        house.stop(2)
        pledged(house, 5)
        house.back(2)
        tick_all(house, 9)
        self.assertEqual(house.look("a", 40, copy=1), (2, 2))
        self.refused(house, Waits, lambda: house.look("a", 41, copy=2), time=40)
        self.refused(house, Waits, lambda: house.look("a", 41, copy=1), time=40)
        tick_all(house, 5)
        ended(house, 6, 70)
        house.catch_up(2)
        # 5 is pledged from 41 on
        for copy in (1, 2):
            self.refused(house, Waits, lambda: house.look("a", 60, copy=copy), time=40)

    def test_gone_by_its_own_book(self):
        house = stocked()
        house.stop(2)
        house.let_go(25)
        house.back(2)
        self.refused(house, Gone, lambda: house.read("a", 24, copy=1), time=25)
        self.assertEqual(house.read("a", 24, copy=2), (2, 2))
        self.assertEqual(house.read("a", 12, copy=2), (1,))
        self.assertEqual(house.read("a", 25, copy=1), (2, 2))

    def test_elsewhere_and_form_by_its_own_book(self):
        house = stocked()
        ended(house, 5, 41, more=("move", "a", 2))
        ended(house, 6, 42, (("b", (8,)),), more=("move", "b", 0))
        house.stop(2)
        ended(house, 7, 43, more=("form", 60, 2))
        ended(house, 8, 70)
        self.assertEqual((house.look("a", 40, copy=1), house.look("b", 42, copy=1)), ((2, 2), (8,)))
        self.assertEqual((house.look("b", 59, copy=1), house.look("b", 60, copy=1)), ((8,), (8, 0)))
        self.refused(house, Elsewhere, lambda: house.read("a", 41, copy=1), key="a", house=2)
        self.refused(house, Elsewhere, lambda: house.read("b", 41, copy=1), key="b", house=1)
        house.back(2)
        self.refused(house, Waits, lambda: house.read("b", 42, copy=2), time=41)

    def test_order_of_refusals(self):
        house = stocked()
        house.let_go(25)
        # Waits ahead of Elsewhere, Gone ahead of it
        self.refused(house, Waits, lambda: house.read("b", 99, copy=1), time=29)
        self.refused(house, Gone, lambda: house.read("b", 24, copy=1), time=25)
        self.refused(house, Elsewhere, lambda: house.read("b", 25, copy=1), key="b", house=1)
        house.let_go(50)
        # Waits ahead of Gone
        self.refused(house, Waits, lambda: house.read("a", 40, copy=1), time=29)
        self.refused(house, Gone, lambda: house.read("a", 29, copy=1), time=50)


class Marks(Case):
    def test_the_heads_low(self):
        house = stocked()
        self.assertEqual(house.mark(), 40)
        self.assertEqual(book(house)[-1], ("mark", 40))
        self.assertEqual((house.floor(), house.ledger().last_mark(), house.ledger().safe()), (40, 40, 40))

    def test_one_less_than_the_least_pledge(self):
        house = stocked()
        pledged(house, 5, houses=(0, 1))
        tick_all(house, 5)
        pledged(house, 6, houses=(0,))
        self.assertEqual(house.ledger().word(6), "sure")
        self.assertEqual(house.mark(), 39)
        self.assertEqual((book(house)[-1], house.floor()), (("mark", 39), 39))
        house.give_up(5)
        self.assertEqual(house.mark(), 44)
        tick_all(house, 60)
        self.assertEqual(self.unchanged(house, house.mark), 44)
        house.tell(6)
        self.assertEqual(house.mark(), 105)

    def test_the_low_where_the_pledge_is_ahead_of_it(self):
        house = stocked()
        house.read("a", 50)
        pledged(house, 5)
        self.assertEqual((house.ledger().pledge_of(5)[4][0], house.mark()), (51, 40))

    def test_the_floor_is_at_least_as_much(self):
        house = stocked()
        house.read("a", 50)
        house.mark()
        self.assertEqual(house.floor(), 50)

    def test_no_more_than_the_greatest_one(self):
        house = stocked()
        house.mark()
        many = len(book(house))
        self.assertEqual(self.unchanged(house, house.mark), 40)
        tick_all(house, 1)
        self.assertEqual(house.mark(), 41)
        self.assertEqual(len(book(house)), many + 1)
        early = house_of(low=-5, high=-5)
        self.assertEqual(self.unchanged(early, early.mark), -5)
        nought = house_of(low=-1, high=-1)
        self.assertEqual(self.unchanged(nought, nought.mark), -1)

    def test_where_nothing_can_be_written(self):
        house = stocked()
        house.mark()
        house.stop(1)
        house.stop(2)
        self.assertEqual(self.unchanged(house, house.mark), 40)
        tick_all(house, 1)
        self.refused(house, NoHead, house.mark, house=0)

    def test_later_pledges_are_above_it(self):
        house = stocked()
        house.mark()
        self.assertEqual(pledged(house, 5), [])
        self.assertEqual(house.ledger().pledge_of(5)[4][0], 41)


class LettingGo(Case):
    def test_an_entry(self):
        house = stocked()
        self.assertIsNone(house.let_go(time=25))
        self.assertEqual(book(house)[-1], ("gone", 25))
        self.assertEqual(house.ledger().shelf().versions("a"), [((20, 102, 1), (2, 2))])
        self.assertEqual(house.floor(), 25)

    def test_the_floor_is_at_least_as_much(self):
        house = stocked()
        house.read("a", 45)
        house.let_go(25)
        self.assertEqual(house.floor(), 45)
        house.let_go(50)
        self.assertEqual(house.floor(), 50)

    def test_a_time_that_could_be_read(self):
        house = stocked()
        self.refused(house, Early, lambda: house.let_go(51), time=51)
        pledged(house, 5)
        self.refused(house, Waits, lambda: house.let_go(40), time=40)
        self.refused(house, Early, lambda: house.let_go(51), time=51)
        house.let_go(39)
        self.assertEqual(book(house)[-1], ("gone", 39))

    def test_a_lesser_one_than_was_let_go(self):
        house = stocked()
        house.let_go(50)
        for copy in range(3):
            house.set_clock(copy, 40, 42)
        self.refused(house, Early, lambda: house.let_go(50), time=50)
        self.assertIsNone(house.let_go(49))
        self.assertEqual(book(house)[-1], ("gone", 49))
        self.assertIsNone(house.let_go(3))
        self.refused(house, Gone, lambda: house.read("a", 41), time=50)
        self.assertEqual(house.floor(), 50)

    def test_where_nothing_can_be_written(self):
        house = stocked()
        pledged(house, 5)
        house.stop(1)
        house.stop(2)
        self.refused(house, NoHead, lambda: house.let_go(25), house=0)
        # behind all else that is refused
        self.refused(house, Early, lambda: house.let_go(51), time=51)
        self.refused(house, Waits, lambda: house.let_go(45), time=40)
        self.refused(house, NoNumber, lambda: house.let_go(None))

    def test_in_a_new_reign_it_stays_gone(self):
        house = stocked()
        house.let_go(25)
        reign_anew(house, 1)
        self.refused(house, Gone, lambda: house.read("a", 24), time=25)


class Again(unittest.TestCase):
    def test_what_was_read_is_read_again_alike(self):
        house = stocked()
        self.assertEqual(house.read("a", 50), (2, 2))
        pledged(house, 5, houses=(0,), writes=(("a", (9,)),))
        tick_all(house, 60)
        house.tell(5)
        self.assertEqual(house.read("a", 50), (2, 2))
        self.assertEqual(house.read("a", house.ledger().stamp_of(5)[0]), (9,))
        was = seen(house)
        self.assertEqual(house.look("a", 50), (2, 2))
        self.assertEqual(seen(house), was)


if __name__ == "__main__":
    unittest.main()
