import unittest

from stampedwait.errors import Gone
from stampedwait.ledgers import Ledger, first_house
from stampedwait.shelves import Shelf


def pledge(dealing, stamp, writes=(), reads=(), more=None, home=0, houses=(0,)):
    return ("pledge", dealing, home, houses, stamp, reads, writes, more)


def noted(*entries, house=0, houses=1):
    ledger = Ledger(house, houses)
    for entry in entries:
        ledger.note(entry)
    return ledger


def done(dealing, time, writes=(), more=None, serial=None):
    """The pledge and the end of a dealing, both with one stamp."""
    stamp = (time, dealing if serial is None else serial, 0)
    return [pledge(dealing, stamp, writes, more=more), ("done", dealing, stamp)]


class FirstHouses(unittest.TestCase):
    def test_sum_of_places_modulo(self):
        self.assertEqual([first_house(key, 3) for key in ("a", "b", "c", "d", "aa", "bb", "zz", "bcd")],
                         [0, 1, 2, 0, 0, 2, 2, 0])
        self.assertEqual(first_house("zzzzzz", 4), 150 % 4)
        self.assertEqual(first_house("zzzzzz", 1), 0)
        self.assertEqual(first_house(key="cb", houses=4), 3)

    def test_ledger_by_it(self):
        ledger = Ledger(house=2, houses=3)
        for key in ("a", "b", "bb"):
            self.assertEqual(ledger.house_of(key), first_house(key, 3))
            self.assertEqual(ledger.house_at(key, 10), first_house(key, 3))
        self.assertEqual(Ledger(0).house_of("b"), 0)


class New(unittest.TestCase):
    def test_nothing_is_noted(self):
        ledger = Ledger(2, 3)
        for tell in (ledger.word, ledger.pledge_of, ledger.stamp_of, ledger.low_of):
            self.assertIsNone(tell(0))
            self.assertIsNone(tell(dealing=7))
        self.assertEqual(ledger.pending(), [])
        self.assertEqual(ledger.last_stamp(), (-1, 0, 2))
        self.assertEqual(ledger.last_serial(), 0)
        self.assertEqual(ledger.last_mark(), -1)
        self.assertEqual(len(ledger.shelf()), 0)
        self.assertIsInstance(ledger.shelf(), Shelf)
        self.assertIsNone(ledger.fields_at(100))
        self.assertIsNone(ledger.worth_at("c", 100))
        self.assertEqual(ledger.safe(), -1)


class Words(unittest.TestCase):
    def told(self, ledger, dealing):
        return (ledger.word(dealing), ledger.pledge_of(dealing), ledger.stamp_of(dealing),
                ledger.low_of(dealing), ledger.pending())

    def test_pledged_sure_done(self):
        ledger = Ledger(0)
        entry = pledge(4, (10, 1, 0), (("a", (1,)),), ("b",), houses=(0, 2))
        self.assertIsNone(ledger.note(entry))
        self.assertEqual(self.told(ledger, 4), ("pledged", entry, None, None, [4]))
        ledger.note(("sure", 4, (15, 3, 0), 8))
        self.assertEqual(self.told(ledger, 4), ("sure", entry, (15, 3, 0), 8, [4]))
        ledger.note(("done", 4, (15, 3, 0)))
        self.assertEqual(self.told(ledger, 4), ("done", entry, (15, 3, 0), 8, []))

    def test_pledged_done(self):
        entry = pledge(4, (10, 1, 1), home=0, houses=(0, 1))
        ledger = noted(entry, ("done", 4, (15, 3, 0)), house=1, houses=2)
        self.assertEqual(self.told(ledger, 4), ("done", entry, (15, 3, 0), None, []))

    def test_pledged_off(self):
        entry = pledge(4, (10, 1, 0), (("a", (1,)),))
        ledger = noted(entry, ("off", 4))
        self.assertEqual(self.told(ledger, 4), ("off", entry, None, None, []))
        self.assertEqual(len(ledger.shelf()), 0)

    def test_off_alone(self):
        self.assertEqual(self.told(noted(("off", 4)), 4), ("off", None, None, None, []))

    def test_others_between(self):
        first = pledge(4, (10, 1, 0), (("a", (1,)),))
        other = pledge(2, (10, 2, 0), (("b", (2,)),))
        ledger = noted(first, other, ("sure", 2, (12, 9, 0), 3), ("off", 7), ("sure", 4, (11, 4, 0), 2),
                       ("done", 2, (12, 9, 0)))
        self.assertEqual(self.told(ledger, 4), ("sure", first, (11, 4, 0), 2, [4]))
        self.assertEqual(self.told(ledger, 2), ("done", other, (12, 9, 0), 3, [4]))
        self.assertEqual(ledger.word(7), "off")
        self.assertIsNone(ledger.word(0))

    def test_pending_ones_rising(self):
        ledger = noted(*[pledge(dealing, (dealing, 1, 0)) for dealing in (9, 2, 11, 5)])
        ledger.note(("sure", 11, (20, 1, 0), 0))
        ledger.note(("off", 5))
        self.assertEqual(ledger.pending(), [2, 9, 11])
        ledger.pending().clear()
        self.assertEqual(ledger.pending(), [2, 9, 11])

    def test_by_names(self):
        ledger = Ledger(house=0)
        ledger.note(entry=("off", 3))
        self.assertEqual(ledger.word(dealing=3), "off")
        self.assertIsNone(ledger.pledge_of(dealing=3))
        self.assertEqual(ledger.house_of(key="a"), 0)
        self.assertEqual(ledger.house_at(key="a", time=3), 0)
        self.assertIsNone(ledger.fields_at(time=3))
        self.assertIsNone(ledger.worth_at(key="a", time=3))


class Stamps(unittest.TestCase):
    def test_of_pledges_sure_and_done_ones(self):
        ledger = noted(pledge(1, (10, 3, 0)))
        self.assertEqual((ledger.last_stamp(), ledger.last_serial()), ((10, 3, 0), 3))
        ledger.note(("sure", 1, (12, 5, 0), 4))
        self.assertEqual((ledger.last_stamp(), ledger.last_serial()), ((12, 5, 0), 5))
        ledger.note(pledge(2, (12, 6, 0)))
        ledger.note(("done", 2, (30, 7, 1)))
        self.assertEqual((ledger.last_stamp(), ledger.last_serial()), ((30, 7, 1), 7))

    def test_the_greatest_not_the_last(self):
        ledger = noted(pledge(1, (10, 3, 0)), pledge(2, (9, 8, 0)), pledge(3, (10, 2, 5)), ("off", 1))
        self.assertEqual((ledger.last_stamp(), ledger.last_serial()), ((10, 3, 0), 8))
        ledger.note(("done", 2, (9, 4, 0)))
        self.assertEqual((ledger.last_stamp(), ledger.last_serial()), ((10, 3, 0), 8))

    def test_times_below_nought(self):
        ledger = noted(pledge(1, (-50, 3, 0)))
        self.assertEqual(ledger.last_stamp(), (-50, 3, 0))

    def test_marks(self):
        ledger = noted(("mark", 5))
        self.assertEqual(ledger.last_mark(), 5)
        ledger.note(("mark", 3))
        self.assertEqual(ledger.last_mark(), 5)
        ledger.note(("mark", 9))
        self.assertEqual(ledger.last_mark(), 9)
        self.assertEqual(ledger.last_stamp(), (-1, 0, 0))


class Worths(unittest.TestCase):
    def test_writings_of_done_ones_by_their_stamps(self):
        ledger = noted(pledge(1, (10, 1, 0), (("a", (1,)), ("b", (2, 3)))), ("sure", 1, (12, 4, 0), 9))
        self.assertEqual(len(ledger.shelf()), 0)
        ledger.note(("done", 1, (12, 4, 0)))
        shelf = ledger.shelf()
        self.assertEqual(shelf.versions("a"), [((12, 4, 0), (1,))])
        self.assertEqual(shelf.versions("b"), [((12, 4, 0), (2, 3))])
        self.assertEqual(len(shelf), 2)

    def test_a_twin_of_its_own(self):
        ledger = noted(*done(1, 10, (("a", (1,)),)))
        shelf = ledger.shelf()
        shelf.put("a", (50, 1, 0), (7,))
        shelf.let_go(60)
        self.assertEqual(ledger.shelf().versions("a"), [((10, 1, 0), (1,))])
        self.assertEqual(ledger.worth_at("a", 10), (1,))
        before = ledger.shelf()
        for entry in done(2, 20, (("a", (2,)),)):
            ledger.note(entry)
        self.assertEqual(before.newest("a"), (1,))

    def test_at_times(self):
        ledger = noted(*done(1, 10, (("a", (1,)),)), *done(2, 20, (("a", (2, 2)),)))
        self.assertEqual([ledger.worth_at("a", time) for time in (9, 10, 19, 20, 99)],
                         [None, (1,), (1,), (2, 2), (2, 2)])
        self.assertIsNone(ledger.worth_at("b", 99))

    def test_let_go_as_noted(self):
        ledger = noted(*done(1, 10, (("a", (1,)),)), *done(2, 20, (("a", (2,)),)), ("gone", 25))
        self.assertEqual(ledger.shelf().versions("a"), [((20, 2, 0), (2,))])
        for tell in (ledger.worth_at, ledger.shelf().at):
            with self.assertRaises(Gone) as caught:
                tell("a", 24)
            self.assertEqual(caught.exception.time, 25)
        self.assertEqual(ledger.worth_at("a", 25), (2,))
        ledger.note(("gone", 3))
        with self.assertRaises(Gone) as caught:
            ledger.worth_at("zz", 4)
        self.assertEqual(caught.exception.time, 25)


class Moves(unittest.TestCase):
    def moved(self, *rows):
        ledger = Ledger(0, 3)
        for dealing, (time, key, to) in enumerate(rows):
            for entry in done(dealing, time, more=("move", key, to)):
                ledger.note(entry)
        return ledger

    def test_from_its_stamps_time_on(self):
        ledger = self.moved((10, "b", 2), (20, "b", 0), (15, "c", 1))
        self.assertEqual([ledger.house_at("b", time) for time in (-5, 9, 10, 19, 20, 99)], [1, 1, 2, 2, 0, 0])
        self.assertEqual([ledger.house_at("c", time) for time in (14, 15)], [2, 1])
        self.assertEqual([ledger.house_of(key) for key in ("a", "b", "c")], [0, 0, 1])

    def test_of_like_times_the_later_one(self):
        ledger = self.moved((10, "b", 2), (10, "b", 0))
        self.assertEqual((ledger.house_of("b"), ledger.house_at("b", 10), ledger.house_at("b", 9)), (0, 0, 1))

    def test_not_ahead_of_its_end(self):
        ledger = noted(pledge(1, (10, 1, 0), more=("move", "b", 2)), houses=3)
        self.assertEqual((ledger.house_of("b"), ledger.house_at("b", 99)), (1, 1))
        ledger.note(("sure", 1, (10, 1, 0), 5))
        self.assertEqual((ledger.house_of("b"), ledger.house_at("b", 99)), (1, 1))
        ledger.note(("done", 1, (12, 2, 0)))
        self.assertEqual((ledger.house_of("b"), ledger.house_at("b", 11), ledger.house_at("b", 12)), (2, 1, 2))

    def test_not_where_it_is_off(self):
        ledger = noted(pledge(1, (10, 1, 0), more=("move", "b", 2)), ("off", 1), houses=3)
        self.assertEqual((ledger.house_of("b"), ledger.house_at("b", 99)), (1, 1))

    def test_a_move_is_no_form_and_writes_what_it_writes(self):
        ledger = noted(*done(1, 10, (("b", (4,)),), ("move", "b", 0)), houses=2)
        self.assertIsNone(ledger.fields_at(99))
        self.assertEqual(ledger.shelf().newest("b"), (4,))


class Forms(unittest.TestCase):
    def formed(self, *rows):
        ledger = Ledger(0)
        for entry in done(0, 1, (("a", (1, 2, 3)), ("b", (7,)))):
            ledger.note(entry)
        for at, (time, fields) in enumerate(rows):
            for entry in done(at + 1, 2 + at, more=("form", time, fields)):
                ledger.note(entry)
        return ledger

    def test_from_its_time_on(self):
        ledger = self.formed((20, 2), (30, 4))
        self.assertEqual([ledger.fields_at(time) for time in (0, 19, 20, 29, 30, 99)], [None, None, 2, 2, 4, 4])
        self.assertEqual(ledger.house_of("a"), 0)

    def test_the_greatest_time_rules_whichever_was_done_last(self):
        ledger = self.formed((30, 4), (20, 2), (25, 1))
        self.assertEqual([ledger.fields_at(time) for time in (19, 20, 25, 29, 30)], [None, 2, 1, 1, 4])

    def test_of_like_times_the_one_done_last(self):
        self.assertEqual(self.formed((20, 4), (20, 1)).fields_at(20), 1)
        self.assertEqual(self.formed((20, 1), (20, 4), (10, 2)).fields_at(25), 4)

    def test_not_ahead_of_its_end_nor_where_off(self):
        ledger = noted(pledge(1, (5, 1, 0), more=("form", 20, 2)))
        self.assertIsNone(ledger.fields_at(99))
        ledger.note(("sure", 1, (6, 2, 0), 5))
        self.assertIsNone(ledger.fields_at(99))
        self.assertIsNone(noted(pledge(1, (5, 1, 0), more=("form", 20, 2)), ("off", 1)).fields_at(99))

    def test_worths_shortened_and_filled_up(self):
        ledger = self.formed((20, 2), (30, 4), (40, 1), (50, 3))
        self.assertEqual([ledger.worth_at("a", time) for time in (1, 19, 20, 30, 40, 50)],
                         [(1, 2, 3), (1, 2, 3), (1, 2), (1, 2, 3, 0), (1,), (1, 2, 3)])
        self.assertEqual([ledger.worth_at("b", time) for time in (1, 20, 30, 40)],
                         [(7,), (7, 0), (7, 0, 0, 0), (7,)])
        self.assertIsNone(ledger.worth_at("c", 30))

    def test_the_shelf_has_them_as_they_are(self):
        ledger = self.formed((20, 1))
        self.assertEqual(ledger.shelf().at("a", 30), (1, 2, 3))


class Safe(unittest.TestCase):
    def test_one_less_than_the_last_stamps_time(self):
        self.assertEqual(noted(*done(1, 10)).safe(), 9)

    def test_marks(self):
        self.assertEqual(noted(("mark", 30)).safe(), 30)
        self.assertEqual(noted(*done(1, 10), ("mark", 30)).safe(), 30)
        self.assertEqual(noted(*done(1, 50), ("mark", 30)).safe(), 49)
        self.assertEqual(noted(*done(1, 50), ("mark", 49)).safe(), 49)

    def test_pledged_ones(self):
        ledger = noted(pledge(1, (20, 1, 0)), pledge(2, (12, 2, 0)), ("mark", 40))
        self.assertEqual(ledger.safe(), 11)
        ledger.note(("sure", 2, (60, 3, 0), 5))
        self.assertEqual(ledger.safe(), 11)
        ledger.note(("done", 2, (60, 3, 0)))
        self.assertEqual(ledger.safe(), 19)
        ledger.note(("off", 1))
        self.assertEqual(ledger.safe(), 59)

    def test_at_most_the_others(self):
        # its pledge lies ahead of the mark, and no stamp is greater
        self.assertEqual(noted(("mark", 5), pledge(1, (20, 1, 0))).safe(), 19)
        self.assertEqual(noted(pledge(1, (20, 1, 0)), pledge(2, (30, 2, 0)), ("off", 1)).safe(), 29)
        self.assertEqual(noted(pledge(2, (30, 2, 0)), ("mark", 99)).safe(), 29)

    def test_off_alone_changes_nothing(self):
        self.assertEqual(noted(("off", 4)).safe(), -1)


class Twins(unittest.TestCase):
    def seen(self, ledger):
        return ([(ledger.word(d), ledger.pledge_of(d), ledger.stamp_of(d), ledger.low_of(d)) for d in range(9)],
                ledger.pending(), ledger.last_stamp(), ledger.last_serial(), ledger.last_mark(), ledger.safe(),
                [ledger.house_of(key) for key in ("a", "b")], [ledger.house_at("b", time) for time in (5, 50)],
                [ledger.fields_at(time) for time in (5, 50, 99)], ledger.shelf().versions("a"), len(ledger.shelf()))

    def test_each_goes_on_by_itself(self):
        first = noted(*done(1, 10, (("a", (1,)),), ("move", "b", 0)), *done(2, 11, more=("form", 40, 2)),
                      pledge(3, (12, 3, 0)), pledge(4, (13, 4, 0), (("a", (2,)),)),
                      ("sure", 4, (14, 5, 0), 6), ("mark", 7), houses=2)
        twin = first.twin()
        self.assertIsInstance(twin, Ledger)
        was = self.seen(first)
        self.assertEqual(self.seen(twin), was)
        more = [("done", 4, (14, 5, 0)), ("off", 3), ("mark", 70), ("gone", 30),
                *done(5, 45, more=("move", "b", 1)), *done(6, 46, more=("form", 90, 1)),
                pledge(7, (47, 9, 0)), ("sure", 7, (48, 10, 0), 33)]
        for entry in more:
            twin.note(entry)
        self.assertEqual(self.seen(first), was)
        later = self.seen(twin)
        self.assertNotEqual(later, was)
        for entry in more + [pledge(8, (99, 99, 0))]:
            first.note(entry)
        self.assertEqual(self.seen(twin), later)

    def test_what_was_let_go_goes_along(self):
        twin = noted(("gone", 9)).twin()
        with self.assertRaises(Gone):
            twin.worth_at("a", 8)


if __name__ == "__main__":
    unittest.main()
