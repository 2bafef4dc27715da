import unittest

from stampedwait.copies import Copies
from stampedwait.errors import (
    Elsewhere, NoBounds, NoCopy, NoDrift, NoHead, NoHold, NoNumber, NoShare, Off)
from stampedwait.holds import Holds
from stampedwait.houses import House
from stampedwait.ledgers import Ledger
from tests.made import Case, book, ended, house_of, pledge_to, pledged, reign_anew, seen, tick_all
from tests.things import BIG, ODD


class Making(unittest.TestCase):
    def test_new_one(self):
        house = House(2, 4)
        self.assertEqual((house.number(), house.floor(), house.reign(), house.head()), (2, -1, 0, None))
        self.assertEqual(len(house.copies()), 3)
        self.assertEqual(house.copies().clock(0).drift(), (1, 100))
        self.assertEqual(house.ledger().last_stamp(), (-1, 0, 2))
        self.assertEqual(house.ledger().house_of("d"), 3)
        self.assertEqual(House(0).ledger().house_of("d"), 0)

    def test_by_names(self):
        house = House(number=1, houses=3, copies=2, drift=(1, 2), lease=7, wait=(1, 2))
        self.assertEqual((house.number(), len(house.copies()), house.copies().clock(1).drift()), (1, 2, (1, 2)))
        self.assertEqual(house.ledger().house_of("c"), 2)

    def test_what_is_no_number_drift_lease_or_share(self):
        for thing in ODD + [BIG, -1, 0]:
            with self.assertRaises(NoNumber):
                House(0, copies=thing)
            with self.assertRaises(NoNumber):
                House(0, lease=thing)
            with self.assertRaises(NoDrift):
                House(0, drift=thing)
            with self.assertRaises(NoShare):
                House(0, wait=thing)
        with self.assertRaises(NoDrift):
            House(0, drift=(1, 1))
        for thing in [(2, 2), (2, 1), (-1, 2), (1, 1001), [1, 1], (0, 2)]:
            with self.assertRaises(NoShare):
                House(0, wait=thing)
        for share in [(0, 1), (1, 1), (999, 1000)]:
            self.assertEqual(House(0, wait=share).number(), 0)

    def test_lease_is_kept_to(self):
        house = house_of(copies=1, lease=5)
        house.tick_clock(0, 4)
        self.assertEqual(house.head(), 0)
        house.tick_clock(0)
        self.assertIsNone(house.head())


class CopiesOfIt(Case):
    def test_clocks(self):
        house = house_of(copies=2, head=None)
        self.assertIsNone(house.set_clock(copy=1, low=0, high=0))
        self.assertIsNone(house.tick_clock(copy=1, many=4))
        self.assertIsNone(house.tick_clock(1))
        self.assertEqual(house.copies().clock(1).bounds(), (5, 5))
        self.refused(house, NoBounds, lambda: house.set_clock(1, 9, 9), low=9, high=9)
        self.refused(house, NoNumber, lambda: house.tick_clock(1, -1))

    def test_stopped_and_back(self):
        house = house_of(copies=3)
        self.assertIsNone(house.stop(copy=1))
        self.assertFalse(house.copies().is_up(1))
        self.assertIsNone(house.back(copy=1))
        self.assertTrue(house.copies().is_up(1))
        house.stop(0)
        self.assertIsNone(house.head())

    def test_no_copy_of_anything_ahead_of_all_else(self):
        for house in (house_of(copies=2), house_of(copies=2, head=None)):
            for thing in ODD + [-1, 2, BIG]:
                for deed in (lambda: house.set_clock(thing, 5, 4), lambda: house.tick_clock(thing, -1),
                             lambda: house.stop(thing), lambda: house.back(thing),
                             lambda: house.choose(thing), lambda: house.catch_up(thing)):
                    with self.assertRaises(NoCopy) as caught:
                        deed()
                    self.assertIs(caught.exception.copy, thing)

    def test_choosing_tells_the_floor(self):
        house = house_of(number=1, copies=3, lease=20, head=None)
        self.assertEqual(house.choose(copy=2), -1)
        self.assertEqual((house.head(), house.reign(), house.floor()), (2, 1, -1))
        self.refused(house, NoHead, lambda: house.choose(1), house=1)
        tick_all(house, 21)
        self.assertEqual(house.choose(1), 20)
        self.assertEqual((house.head(), house.reign(), house.floor()), (1, 2, 20))

    def test_renewing(self):
        house = house_of(number=1, copies=3, lease=20)
        tick_all(house, 10)
        self.assertIsNone(house.renew())
        tick_all(house, 15)
        self.assertEqual(house.head(), 0)
        house.stop(1)
        house.stop(2)
        self.refused(house, NoHead, house.renew, house=1)
        tick_all(house, 15)
        self.refused(house, NoHead, house.renew, house=1)

    def test_given_the_book(self):
        house = house_of(number=1, copies=3, low=5, high=5)
        house.stop(2)
        house.mark()
        self.refused(house, NoHead, lambda: house.catch_up(2), house=1)
        house.back(2)
        self.assertEqual(house.copies().book(2), [])
        self.assertIsNone(house.catch_up(copy=2))
        self.assertEqual(house.copies().book(2), [("mark", 5)])
        house.stop(0)
        self.refused(house, NoHead, lambda: house.catch_up(2), house=1)


class Telling(Case):
    def test_bounds_of_the_head(self):
        house = house_of(number=1, copies=2, low=5, high=9, head=1)
        house.tick_clock(1, 3)
        house.tick_clock(0, 1)
        self.assertEqual(house.bounds(), (8, 12))
        house.stop(1)
        self.refused(house, NoHead, house.bounds, house=1)

    def test_copies_ledger_and_holds_are_twins(self):
        house = house_of(low=5, high=5)
        pledged(house, 3, reads=("a",), writes=(("c", (1,)),))
        was = seen(house)
        copies, ledger, holds = house.copies(), house.ledger(), house.holds()
        self.assertIsInstance(copies, Copies)
        self.assertIsInstance(ledger, Ledger)
        self.assertIsInstance(holds, Holds)
        self.assertEqual(holds.of(3), {"a": "read", "c": "write"})
        self.assertEqual(ledger.word(3), "pledged")
        copies.write(("off", 9))
        copies.tick_clock(0, 99)
        copies.stop(0)
        ledger.note(("off", 3))
        holds.free(3)
        self.assertEqual(seen(house), was)
        house.give_up(3)
        house.stop(0)
        self.assertEqual(ledger.pending(), [])
        self.assertEqual(house.copies().book()[-1], ("off", 3))
        self.assertEqual(copies.book()[-1], ("off", 9))


class WithoutAHead(Case):
    def deeds(self, house):
        return [house.bounds, lambda: house.hold(1, "a", "read", reign=1), lambda: house.hold(1, "b", "read", reign=7),
                lambda: house.newest(1, "a"), lambda: house.drop(1), lambda: house.tell(1),
                lambda: house.give_up(1), house.questions, lambda: house.read("a", 0), lambda: house.look("b", 99),
                lambda: house.rise(0), house.mark, lambda: house.let_go(0), lambda: house.let_go(99), house.renew,
                lambda: house.catch_up(0)] + [
                    lambda word=word: house.receive((word, 1, 1, 0, (0, 0, 0)))
                    for word in ("yes", "no", "done", "off", "what")] + [
                    lambda: house.receive(pledge_to(0, 1))]

    def test_what_a_house_does_its_head_does(self):
        never = house_of(head=None)
        stopped = house_of(copies=3)
        stopped.hold(1, "a", "read", reign=1)
        stopped.stop(0)
        ran_out = house_of(lease=5)
        pledged(ran_out, 1, houses=(0, 1), reads=("a",))
        ran_out.tick_clock(0, 5)
        for house in (never, stopped, ran_out):
            for deed in self.deeds(house):
                self.refused(house, NoHead, deed, house=0)

    def test_ahead_of_what_is_refused_else(self):
        house = house_of(houses=1, lease=30)
        house.let_go(0)
        for dealing in (1, 2):
            pledged(house, dealing, houses=(0,))
        tick_all(house, 2)
        house.tell(2)
        house.give_up(3)
        tick_all(house, 30)
        self.assertEqual([house.ledger().word(d) for d in (1, 2, 3)], ["sure", "done", "off"])
        for dealing in (1, 2, 3):
            for deed in (house.tell, house.give_up, house.drop):
                self.refused(house, NoHead, lambda: deed(dealing), house=0)
        self.refused(house, NoHead, lambda: house.read("a", -1), house=0)
        self.refused(house, NoHead, lambda: house.let_go(-1), house=0)

    def test_a_head_again_in_the_same_reign_has_its_holds(self):
        house = house_of(high=15, lease=10)
        house.hold(1, "a", "read", reign=1)
        house.tick_clock(0, 10)
        self.refused(house, NoHead, lambda: house.newest(1, "a"), house=0)
        house.set_clock(0, 0, 20)
        self.assertIsNone(house.newest(1, "a"))


class Holding(Case):
    def test_as_holds_do(self):
        house = house_of()
        self.assertEqual(house.hold(5, "a", "write", reign=1), ("held", []))
        self.assertEqual(house.hold(3, "a", "read", reign=1), ("held", [5]))
        self.assertEqual(house.hold(7, "a", "write", reign=1), ("waits", []))
        self.assertEqual(house.hold(9, "a", "write", reign=1, age=1), ("held", [3]))
        holds = house.holds()
        self.assertEqual((holds.of(9), holds.waiting(), holds.called_off()), ({"a": "write"}, {7: [9]}, [3, 5]))
        self.refused(house, Off, lambda: house.hold(5, "c", "read", reign=1), dealing=5)

    def test_by_names(self):
        house = house_of()
        self.assertEqual(house.hold(dealing=5, key="b", mode="write", reign=1, age=None, coming=True), ("held", []))
        self.assertIsNone(house.newest(dealing=5, key="b"))
        self.assertIsNone(house.drop(dealing=5))
        with self.assertRaises(TypeError):
            house.hold(5, "a", "read")

    def test_by_another_reign(self):
        house = house_of()
        for reign in (0, 2, -1, BIG):
            self.refused(house, Off, lambda: house.hold(5, "a", "read", reign=reign), dealing=5)
        reign_anew(house)
        self.refused(house, Off, lambda: house.hold(5, "a", "read", reign=1), dealing=5)
        self.assertEqual(house.hold(5, "a", "read", reign=2), ("held", []))

    def test_where_anything_is_noted(self):
        house = house_of(houses=1)
        pledged(house, 1, houses=(0, 1), reads=("a",))
        pledged(house, 2, houses=(0,), reads=("a",))
        house.receive(("off", 3, 1, 0, None))
        pledged(house, 4, houses=(0,))
        tick_all(house, 1)
        house.tell(4)
        self.assertEqual([house.ledger().word(d) for d in (1, 2, 3, 4)], ["pledged", "sure", "off", "done"])
        for dealing in (1, 2, 3, 4):
            self.refused(house, Off, lambda: house.hold(dealing, "a", "read", reign=1), dealing=dealing)

    def test_elsewhere(self):
        house = house_of(houses=3)
        self.refused(house, Elsewhere, lambda: house.hold(5, "c", "read", reign=1), key="c", house=2)
        self.assertEqual(house.hold(5, "d", "read", reign=1), ("held", []))
        self.assertEqual(house.hold(5, "c", "write", reign=1, coming=True), ("held", []))
        self.assertEqual(house.holds().of(5), {"c": "write", "d": "read"})

    def test_elsewhere_by_the_ledger(self):
        house = house_of(houses=3)
        ended(house, 1, 5, more=("move", "a", 2))
        self.refused(house, Elsewhere, lambda: house.hold(5, "a", "read", reign=1), key="a", house=2)
        ended(house, 2, 6, more=("move", "b", 0))
        self.assertEqual(house.hold(5, "b", "read", reign=1), ("held", []))

    def test_a_key_that_a_pledged_move_brings(self):
        house = house_of(number=0, houses=3)
        pledged(house, 1, houses=(0, 1), more=("move", "b", 0))
        self.assertEqual(house.hold(0, "b", "read", reign=1), ("waits", []))
        self.assertEqual(house.holds().waiting(), {0: [1]})
        house.receive(("off", 1, 1, 0, None))
        self.refused(house, Elsewhere, lambda: house.hold(0, "b", "read", reign=1), key="b", house=1)

    def test_a_sure_move_brings_too(self):
        house = house_of(houses=3)
        pledged(house, 1, houses=(0, 1), more=("move", "b", 0))
        house.receive(("yes", 1, 1, 0, (0, 1, 1)))
        self.assertEqual(house.ledger().word(1), "sure")
        self.assertEqual(house.hold(0, "b", "read", reign=1), ("waits", []))

    def test_a_pledged_move_to_another_house_brings_nothing(self):
        house = house_of(houses=3)
        pledged(house, 1, houses=(0, 1), more=("move", "b", 2))
        pledged(house, 2, houses=(0, 1), more=("move", "c", 0))
        self.refused(house, Elsewhere, lambda: house.hold(0, "b", "read", reign=1), key="b", house=1)

    def test_the_form_itself_is_at_each_house(self):
        for number in range(4):
            house = house_of(number=number, houses=4)
            self.assertEqual(house.hold(1, "*", "write", reign=1), ("held", []))
            self.assertEqual(house.hold(2, "*", "write", reign=1), ("waits", []))

    def test_order_of_refusals(self):
        house = house_of(houses=3)
        house.hold(5, "a", "read", reign=1)
        house.hold(3, "a", "write", reign=1)
        # Off of another reign, or where anything is noted, ahead of Elsewhere
        self.refused(house, Off, lambda: house.hold(1, "b", "read", reign=9), dealing=1)
        house.receive(("off", 7, 1, 0, None))
        self.refused(house, Off, lambda: house.hold(7, "b", "read", reign=1), dealing=7)
        # Elsewhere ahead of what holds refuse
        self.refused(house, Elsewhere, lambda: house.hold(5, "b", "read", reign=1), key="b", house=1)
        self.refused(house, Off, lambda: house.hold(5, "a", "read", reign=1), dealing=5)
        house.stop(0)
        self.refused(house, NoHead, lambda: house.hold(1, "b", "read", reign=9), house=0)
        self.refused(house, NoHead, lambda: house.hold(7, "b", "read", reign=1), house=0)

    def test_holding_needs_no_writing(self):
        house = house_of(copies=3)
        house.stop(1)
        house.stop(2)
        self.assertEqual(house.hold(5, "a", "write", reign=1), ("held", []))
        self.assertIsNone(house.newest(5, "a"))


class Newest(Case):
    def test_of_what_it_holds_either_way(self):
        house = house_of()
        ended(house, 1, 5, writes=(("a", (4, 5)),))
        house.hold(2, "a", "read", reign=1)
        house.hold(2, "c", "write", reign=1)
        self.assertEqual(house.newest(2, "a"), (4, 5))
        self.assertIsNone(house.newest(2, "c"))

    def test_worths_as_they_are(self):
        house = house_of()
        ended(house, 1, 5, writes=(("a", (4, 5)),))
        ended(house, 2, 6, more=("form", 10, 1))
        tick_all(house, 50)
        house.hold(3, "a", "read", reign=1)
        self.assertEqual(house.newest(3, "a"), (4, 5))

    def test_no_hold(self):
        house = house_of()
        house.hold(2, "a", "write", reign=1)
        house.hold(3, "a", "write", reign=1)
        for dealing, key in ((3, "a"), (2, "c"), (9, "a")):
            self.refused(house, NoHold, lambda: house.newest(dealing, key), key=key)
        house.hold(1, "a", "read", reign=1)
        self.refused(house, NoHold, lambda: house.newest(2, "a"), key="a")

    def test_of_pledged_writings_nothing(self):
        house = house_of()
        pledged(house, 1, writes=(("a", (4,)),))
        self.assertIsNone(house.newest(1, "a"))


class Dropping(Case):
    def test_of_which_nothing_is_noted(self):
        house = house_of()
        house.hold(5, "a", "write", reign=1)
        self.assertIsNone(house.drop(5))
        self.assertEqual(house.holds().of(5), {})
        self.assertEqual(house.hold(5, "a", "read", reign=1), ("held", []))
        self.assertEqual(book(house), [])

    def test_called_off_it_stays(self):
        house = house_of()
        house.hold(5, "a", "write", reign=1)
        house.hold(3, "a", "write", reign=1)
        house.drop(5)
        self.assertEqual(house.holds().called_off(), [5])

    def test_of_which_off_is_noted(self):
        house = house_of()
        house.receive(("off", 5, 1, 0, None))
        self.assertIsNone(self.unchanged(house, lambda: house.drop(5)))

    def test_pledged_sure_and_done_ones_stay(self):
        house = house_of()
        pledged(house, 1, reads=("a",))
        pledged(house, 2, houses=(0,), reads=("a",))
        pledged(house, 3, houses=(0,), reads=("a",))
        tick_all(house, 1)
        house.tell(3)
        for dealing in (1, 2, 3):
            self.assertIsNone(self.unchanged(house, lambda: house.drop(dealing)))
        self.assertEqual(house.holds().pledged(), [1, 2])


class Reigns(Case):
    def test_holds_are_gone_but_those_of_pledged_ones(self):
        house = house_of(copies=3)
        for key in ("a", "c", "e"):
            house.hold(1, key, "write", reign=1)
        house.hold(2, "g", "read", reign=1)
        house.hold(3, "g", "write", reign=1)
        house.hold(5, "i", "write", reign=1)
        house.hold(4, "i", "write", reign=1)
        pledged(house, 1, reads=("a", "c"), writes=(("c", (1,)),))
        self.assertEqual(house.holds().of(1), {"a": "write", "c": "write", "e": "write"})
        self.assertEqual((house.holds().waiting(), house.holds().called_off()), ({3: [2]}, [5]))
        self.assertEqual(reign_anew(house, 1), 1000)
        holds = house.holds()
        # what it read and wrote, and nothing that it held beside
        self.assertEqual(holds.of(1), {"a": "read", "c": "write"})
        self.assertEqual([holds.of(d) for d in (2, 3, 4, 5)], [{}] * 4)
        self.assertEqual((holds.waiting(), holds.called_off(), holds.pledged()), ({}, [], [1]))
        self.assertEqual((house.reign(), house.floor()), (2, 1000))

    def test_what_more_wants_is_kept(self):
        house = house_of(houses=3)
        pledged(house, 1, reads=("a",), more=("move", "a", 1))
        pledged(house, 2, more=("form", 5000, 2))
        pledged(house, 3, houses=(0,), reads=("d",))
        reign_anew(house)
        holds = house.holds()
        self.assertEqual([holds.of(d) for d in (1, 2, 3)], [{"a": "write"}, {"*": "write"}, {"d": "read"}])
        self.assertEqual(holds.pledged(), [1, 2, 3])

    def test_who_is_called_off_may_ask_again(self):
        house = house_of()
        house.hold(5, "a", "write", reign=1)
        house.hold(3, "a", "write", reign=1)
        reign_anew(house)
        self.assertEqual(house.hold(5, "a", "write", reign=2), ("held", []))

    def test_floor_is_the_one_told(self):
        house = house_of(low=3, high=3, lease=5)
        house.read("a", 3)
        self.assertEqual(house.floor(), 3)
        tick_all(house, 6)
        self.assertEqual(house.floor(), 3)
        self.assertEqual((house.choose(0), house.floor()), (8, 8))

    def test_votes_are_gone(self):
        house = house_of(houses=3)
        pledged(house, 1, houses=(0, 1, 2))
        house.receive(("yes", 1, 1, 0, (0, 1, 1)))
        reign_anew(house)
        house.receive(("yes", 1, 2, 0, (0, 1, 2)))
        self.assertEqual(house.ledger().word(1), "pledged")
        house.receive(("yes", 1, 1, 0, (0, 1, 1)))
        self.assertEqual(house.ledger().word(1), "pledged")
        house.receive(pledge_to(0, 1, (0, 1, 2)))
        self.assertEqual(house.ledger().word(1), "sure")

    def test_a_refused_choosing_keeps_all(self):
        house = house_of()
        house.hold(5, "a", "write", reign=1)
        self.refused(house, NoHead, lambda: house.choose(0), house=0)


class Twins(unittest.TestCase):
    def test_each_goes_on_by_itself(self):
        first = house_of(number=0, houses=3, copies=3, wait=(1, 2))
        first.hold(5, "a", "write", reign=1)
        pledged(first, 1, houses=(0, 1), writes=(("d", (1,)),))
        first.stop(2)
        first.rise(0)
        twin = first.twin()
        self.assertIsInstance(twin, House)
        was = seen(first)
        self.assertEqual(seen(twin), was)
        twin.receive(("yes", 1, 1, 0, (40, 1, 1)))
        twin.drop(5)
        twin.back(2)
        twin.catch_up(2)
        tick_all(twin, 9)
        twin.rise(9)
        self.assertEqual(seen(first), was)
        later = seen(twin)
        first.give_up(1)
        first.stop(0)
        first.tick_clock(1, 3)
        self.assertEqual(seen(twin), later)

    def test_of_a_new_one(self):
        house = House(1, 2)
        self.assertEqual(seen(house.twin()), seen(house))

    def test_votes_share_and_houses_go_along(self):
        first = house_of(number=0, houses=3, wait=(0, 1))
        pledged(first, 1, houses=(0, 1, 2))
        first.receive(("yes", 1, 1, 0, (40, 1, 1)))
        twin = first.twin()
        twin.receive(("yes", 1, 2, 0, (50, 1, 2)))
        self.assertEqual((twin.ledger().word(1), first.ledger().word(1)), ("sure", "pledged"))
        tick_all(twin, 1)
        self.assertEqual([letter[0] for letter in twin.tell(1)], ["done", "done"])
        self.assertEqual(twin.ledger().house_of("c"), 2)
        other = first.twin()
        first.receive(("yes", 1, 2, 0, (50, 1, 2)))
        self.assertEqual(other.ledger().word(1), "pledged")

    def test_votes_of_the_twin_are_its_own(self):
        first = house_of(number=0, houses=3)
        first.receive(("yes", 1, 1, 0, (40, 1, 1)))
        first.twin().receive(("yes", 1, 2, 0, (40, 1, 2)))
        pledged(first, 1, houses=(0, 1, 2))
        self.assertEqual(first.ledger().word(1), "pledged")


if __name__ == "__main__":
    unittest.main()
