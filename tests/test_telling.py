"""Telling sure dealings, giving up, questions."""

import unittest

from stampedwait.errors import NoHead, Off, Sure, Waits
from tests.made import Case, book, house_of, pledge_to, pledged, reign_anew, tick_all


def sure_house(low=10, high=20, wait=(1, 1), copies=1):
    """A home at which dealing 4, of three houses, is sure."""
    house = house_of(houses=3, low=low, high=high, wait=wait, copies=copies)
    pledged(house, 4, houses=(0, 1, 2), writes=(("a", (7,)),))
    for sender in (1, 2):
        house.receive(("yes", 4, sender, 0, (low, 1, sender)))
    return house


class Telling(Case):
    def test_when_the_stamps_time_is_surely_past(self):
        house = sure_house()
        self.assertEqual(house.ledger().stamp_of(4), (20, 2, 0))
        for ticks in range(11):
            self.refused(house, Waits, lambda: house.tell(4), time=20)
            tick_all(house, 1)
        self.assertEqual(house.bounds()[0], 21)
        told = house.tell(dealing=4)
        self.assertEqual(told, [("done", 4, 0, 1, (20, 2, 0)), ("done", 4, 0, 2, (20, 2, 0))])
        self.assertEqual(book(house)[-1], ("done", 4, (20, 2, 0)))
        self.assertEqual((house.holds().of(4), house.holds().pledged()), ({}, []))
        self.assertEqual(house.ledger().shelf().versions("a"), [((20, 2, 0), (7,))])

    def test_again(self):
        house = sure_house()
        tick_all(house, 11)
        first = house.tell(4)
        self.assertEqual(self.unchanged(house, lambda: house.tell(4)), first)
        first.clear()
        self.assertEqual(len(house.tell(4)), 2)

    def test_again_where_nothing_can_be_written(self):
        house = sure_house(copies=3)
        tick_all(house, 11)
        house.stop(1)
        house.stop(2)
        self.refused(house, NoHead, lambda: house.tell(4), house=0)
        house.back(1)
        first = house.tell(4)
        house.stop(1)
        self.assertEqual(self.unchanged(house, lambda: house.tell(4)), first)

    def test_waits_ahead_of_no_head_for_writing(self):
        house = sure_house(copies=3)
        house.stop(1)
        house.stop(2)
        self.refused(house, Waits, lambda: house.tell(4), time=20)

    def test_of_one_house(self):
        house = house_of(houses=1, low=10, high=20)
        pledged(house, 4, houses=(0,))
        tick_all(house, 11)
        self.assertEqual(house.tell(4), [])
        self.assertEqual(house.ledger().word(4), "done")

    def test_off(self):
        house = house_of()
        pledged(house, 4)
        house.receive(("no", 4, 1, 0, None))
        house.receive(("off", 5, 1, 0, None))
        for dealing in (4, 5):
            self.refused(house, Off, lambda: house.tell(dealing), dealing=dealing)

    def test_not_sure_or_nothing_noted(self):
        house = house_of()
        pledged(house, 4)
        for dealing in (4, 5):
            self.refused(house, Waits, lambda: house.tell(dealing), time=None)

    def test_in_a_new_reign(self):
        house = sure_house()
        reign_anew(house)
        self.assertEqual(house.ledger().word(4), "sure")
        self.assertEqual(len(house.tell(4)), 2)


class Shares(Case):
    def ticks_to_tell(self, wait, low=10, high=20):
        house = sure_house(low, high, wait)
        ticks = 0
        while True:
            try:
                house.tell(4)
                return ticks
            except Waits as waits:
                self.assertEqual(waits.time, high)
                tick_all(house, 1)
                ticks += 1

    def test_of_what_the_stamp_is_more_than_the_low(self):
        self.assertEqual(self.ticks_to_tell((1, 1)), 11)
        self.assertEqual(self.ticks_to_tell((1, 2)), 6)
        self.assertEqual(self.ticks_to_tell((0, 1)), 1)
        # 10 times 1/3 is above 3 and below 4
        self.assertEqual(self.ticks_to_tell((1, 3)), 4)
        self.assertEqual(self.ticks_to_tell((999, 1000)), 10)
        self.assertEqual(self.ticks_to_tell((3, 4), 8, 16), 7)
        self.assertEqual(self.ticks_to_tell((1, 1), 5, 5), 1)

    def test_the_low_of_its_deciding_counts(self):
        house = house_of(houses=2, low=10, high=20, wait=(1, 2))
        pledged(house, 4)
        tick_all(house, 6)
        house.receive(("yes", 4, 1, 0, (10, 1, 1)))
        self.assertEqual((house.ledger().low_of(4), house.ledger().stamp_of(4)), (16, (26, 2, 0)))
        tick_all(house, 5)
        self.refused(house, Waits, lambda: house.tell(4), time=26)
        tick_all(house, 1)
        self.assertEqual(len(house.tell(4)), 1)

    def test_a_clock_set_anew_shortens_it(self):
        house = sure_house()
        house.set_clock(0, 20, 20)
        self.refused(house, Waits, lambda: house.tell(4), time=20)
        tick_all(house, 1)
        self.assertEqual(len(house.tell(4)), 2)


class GivingUp(Case):
    def test_a_pledged_one(self):
        house = house_of(houses=3)
        pledged(house, 4, houses=(0, 1, 2), reads=("a",))
        off = [("off", 4, 0, 1, None), ("off", 4, 0, 2, None)]
        self.assertEqual(house.give_up(dealing=4), off)
        self.assertEqual((book(house)[-1], house.holds().of(4), house.holds().pledged()), (("off", 4), {}, []))
        self.assertEqual(self.unchanged(house, lambda: house.give_up(4)), off)

    def test_of_which_nothing_is_noted(self):
        house = house_of()
        house.hold(4, "a", "write", reign=1)
        self.assertEqual(house.give_up(4), [])
        self.assertEqual((book(house), house.holds().of(4)), ([("off", 4)], {}))
        self.assertEqual(self.unchanged(house, lambda: house.give_up(4)), [])

    def test_sure_and_done(self):
        house = sure_house()
        self.refused(house, Sure, lambda: house.give_up(4), stamp=(20, 2, 0))
        tick_all(house, 11)
        house.tell(4)
        self.refused(house, Sure, lambda: house.give_up(4), stamp=(20, 2, 0))

    def test_where_nothing_can_be_written(self):
        house = sure_house(copies=3)
        pledged(house, 5, houses=(0, 1))
        house.give_up(5)
        house.stop(1)
        house.stop(2)
        # Sure goes ahead; of what is off already nothing has to be written
        self.refused(house, Sure, lambda: house.give_up(4), stamp=(20, 2, 0))
        self.assertEqual(self.unchanged(house, lambda: house.give_up(5)), [("off", 5, 0, 1, None)])
        self.refused(house, NoHead, lambda: house.give_up(6), house=0)

    def test_late_letters_change_nothing(self):
        house = house_of()
        pledged(house, 4, reads=("a",))
        house.give_up(4)
        house.receive(("yes", 4, 1, 0, (5, 5, 1)))
        self.assertEqual(house.receive(pledge_to(0, 4, reads=("a",))), [("off", 4, 0, 1, None)])
        self.assertEqual(house.ledger().word(4), "off")


class Questions(Case):
    def test_for_those_pledged_whose_home_is_another_house(self):
        house = house_of(number=2, houses=4)
        self.assertEqual(house.questions(), [])
        pledged(house, 9, houses=(0, 2))
        pledged(house, 3, houses=(1, 2, 3))
        pledged(house, 5, houses=(2, 3))
        pledged(house, 6, houses=(0, 2))
        pledged(house, 7, houses=(0, 2))
        house.receive(("off", 6, 0, 2, None))
        house.receive(("done", 7, 0, 2, (5, 50, 0)))
        told = self.unchanged(house, house.questions)
        self.assertEqual(told, [("what", 3, 2, 1, None), ("what", 9, 2, 0, None)])
        told.clear()
        self.assertEqual(len(house.questions()), 2)

    def test_not_for_sure_ones_at_home(self):
        house = sure_house()
        pledged(house, 5, houses=(0, 1))
        self.assertEqual(house.questions(), [])

    def test_where_nothing_can_be_written(self):
        house = house_of(number=1, copies=3)
        pledged(house, 9)
        house.stop(1)
        house.stop(2)
        self.assertEqual(house.questions(), [("what", 9, 1, 0, None)])


if __name__ == "__main__":
    unittest.main()
