import unittest

from stampedwait.errors import Gone, NoKey, NoNumber, NoStamp, NoWorth
from stampedwait.shelves import Shelf, is_key, is_worth
from tests.things import BIG, ODD

NO_KEYS = ODD + [0, 1, "ab c", "aB", "a1", "-", "a,", "abcdefg", "a\n", " a", ("a",), ["a"], b"abc"]
NO_WORTHS = ODD + [0, "a", [1, 2], "1", (1, 2, 3, 4, 5), (1, True), (1, None)]
NO_STAMPS = ODD + [0, "a", (1,), (1, 0), [1, 0, 0], (1, -1, 0), (1, 0, -1), (1, 0, 0, 0), (True, 0, 0)]
NO_TIMES = ODD + ["5", (5,), (5, 0, 0)]


def stocked():
    shelf = Shelf()
    shelf.put("b", (3, 0, 0), (30,))
    shelf.put("a", (1, 0, 0), (1, 2))
    shelf.put("a", (5, 1, 0), (5,))
    shelf.put("a", (5, 1, 2), (6, 0, -6))
    shelf.put("a", (5, 2, 0), (7,))
    shelf.put("a", (9, 0, 0), (9, 9, 9, 9))
    return shelf


def all_of(shelf):
    """All that a shelf tells, but for its worths at times."""
    return {key: shelf.versions(key) for key in shelf.all_keys()}, len(shelf)


class Kinds(unittest.TestCase):
    def test_key(self):
        for key in ("a", "z", "key", "abcdef", "zzzzzz"):
            self.assertIs(is_key(key), True)
        for thing in NO_KEYS:
            self.assertIs(is_key(thing), False)

    def test_worth(self):
        for worth in ((0,), (-1, 2), (1, 2, 3), (1, 2, 3, 4), (BIG, -BIG)):
            self.assertIs(is_worth(worth), True)
        for thing in NO_WORTHS:
            self.assertIs(is_worth(thing), False)

    def test_by_names(self):
        self.assertIs(is_key(thing="a"), True)
        self.assertIs(is_worth(thing=(1,)), True)


class Putting(unittest.TestCase):
    def test_empty(self):
        shelf = Shelf()
        self.assertEqual((shelf.all_keys(), len(shelf), shelf.versions("a")), ([], 0, []))
        self.assertIsNone(shelf.newest("a"))
        self.assertIsNone(shelf.at("a", 0))
        self.assertEqual(all_of(shelf), ({}, 0))

    def test_told_behind_each(self):
        shelf = Shelf()
        rows = [
            ("b", (-4, 0, 0), (1,)), ("a", (2, 0, 0), (2,)), ("b", (2, 0, 0), (3, 3)),
            ("b", (2, 0, 1), (4,)), ("b", (2, 1, 0), (5,)), ("a", (3, 0, 0), (6,)),
            ("b", (BIG, BIG, BIG), (BIG,)), ("zzzzzz", (0, 0, 0), (0, 0, 0, 0))]
        kept = {}
        for many, (key, stamp, worth) in enumerate(rows):
            self.assertIsNone(shelf.put(key, stamp, worth))
            kept.setdefault(key, []).append((stamp, worth))
            self.assertEqual(shelf.all_keys(), sorted(kept))
            self.assertEqual(len(shelf), many + 1)
            self.assertEqual(shelf.newest(key), worth)
            for each, versions in kept.items():
                self.assertEqual(shelf.versions(each), versions)
                self.assertEqual(shelf.newest(each), versions[-1][1])

    def test_by_names(self):
        shelf = Shelf()
        shelf.put(worth=(1,), stamp=(1, 0, 0), key="a")
        self.assertEqual(shelf.versions(key="a"), [((1, 0, 0), (1,))])
        self.assertEqual(shelf.newest(key="a"), (1,))
        self.assertEqual(shelf.at(time=1, key="a"), (1,))
        shelf.let_go(time=1)
        with self.assertRaises(Gone):
            shelf.at("a", 0)

    def test_told_lists_are_the_askers_own(self):
        shelf = stocked()
        before = all_of(shelf)
        told, keys, none = shelf.versions("a"), shelf.all_keys(), shelf.versions("zz")
        shelf.put("a", (10, 0, 0), (10,))
        shelf.put("zz", (10, 0, 0), (10,))
        self.assertEqual((told, keys, none), (before[0]["a"], ["a", "b"], []))
        before = all_of(shelf)
        told.clear()
        keys.append("x")
        none.append(1)
        shelf.versions("zz").clear()
        shelf.versions("no").append(((1, 0, 0), (1,)))
        self.assertEqual(all_of(shelf), before)
        self.assertEqual(shelf.at("a", 5), (7,))


class Refusing(unittest.TestCase):
    def refused(self, kind, deed, *things):
        shelf = stocked()
        with self.assertRaises(kind) as caught:
            getattr(shelf, deed)(*things)
        self.assertEqual(all_of(shelf), all_of(stocked()))
        self.assertIsNone(shelf.at("a", -BIG))
        return caught.exception

    def test_no_key(self):
        for thing in NO_KEYS:
            self.assertIs(self.refused(NoKey, "put", thing, (20, 0, 0), (1,)).key, thing)
            self.assertIs(self.refused(NoKey, "versions", thing).key, thing)
            self.assertIs(self.refused(NoKey, "newest", thing).key, thing)
            self.assertIs(self.refused(NoKey, "at", thing, 5).key, thing)

    def test_no_stamp(self):
        for thing in NO_STAMPS:
            self.refused(NoStamp, "put", "a", thing, (1,))
            self.refused(NoStamp, "put", "new", thing, (1,))

    def test_no_stamp_where_it_does_not_rise(self):
        for stamp in [(9, 0, 0), (8, 9, 9), (5, 2, 0), (0, 0, 0), (-1, 0, 0)]:
            self.refused(NoStamp, "put", "a", stamp, (1,))
        shelf = Shelf()
        shelf.put("a", (5, 5, 5), (1,))
        for stamp in [(5, 5, 5), (5, 5, 4), (5, 4, 6), (4, 6, 6)]:
            with self.assertRaises(NoStamp):
                shelf.put("a", stamp, (1,))
        self.assertEqual(shelf.versions("a"), [((5, 5, 5), (1,))])
        shelf.put("b", (4, 0, 0), (2,))
        for stamp in [(5, 5, 6), (5, 6, 0), (6, 0, 0)]:
            shelf.put("a", stamp, (1,))
        self.assertEqual(len(shelf), 5)

    def test_no_worth(self):
        for thing in NO_WORTHS:
            self.refused(NoWorth, "put", "a", (20, 0, 0), thing)
            self.refused(NoWorth, "put", "new", (20, 0, 0), thing)

    def test_no_number(self):
        for thing in NO_TIMES:
            self.refused(NoNumber, "at", "a", thing)
            self.refused(NoNumber, "at", "new", thing)
            self.refused(NoNumber, "let_go", thing)

    def test_the_one_farther_to_the_left_goes_first(self):
        for bad in (None, 7, [], "A"):
            self.refused(NoKey, "put", bad, bad, bad)
            self.refused(NoKey, "put", bad, (20, 0, 0), bad)
            self.refused(NoKey, "put", bad, bad, (1,))
            self.refused(NoStamp, "put", "a", bad, bad)
            self.refused(NoStamp, "put", "a", (9, 0, 0), bad)
            self.refused(NoKey, "at", bad, None)

    def test_no_key_and_no_number_ahead_of_gone(self):
        shelf = stocked()
        shelf.let_go(4)
        with self.assertRaises(NoKey):
            shelf.at("A", 3)
        with self.assertRaises(NoNumber):
            shelf.at("a", None)


class AtTimes(unittest.TestCase):
    def test_last_stamp_up_to_the_time(self):
        shelf = stocked()
        rows = [
            (-BIG, None), (0, None), (1, (1, 2)), (2, (1, 2)), (4, (1, 2)), (5, (7,)), (8, (7,)),
            (9, (9, 9, 9, 9)), (10, (9, 9, 9, 9)), (BIG, (9, 9, 9, 9))]
        for time, worth in rows:
            self.assertEqual(shelf.at("a", time), worth)
            self.assertIsNone(shelf.at("new", time))
        self.assertEqual([shelf.at("b", time) for time in (2, 3, 4)], [None, (30,), (30,)])

    def test_times_below_0(self):
        shelf = Shelf()
        shelf.put("a", (-5, 0, 0), (1,))
        shelf.put("a", (-2, 0, 0), (2,))
        told = [shelf.at("a", time) for time in (-6, -5, -3, -2, 0)]
        self.assertEqual(told, [None, (1,), (1,), (2,), (2,)])


class LettingGo(unittest.TestCase):
    def gone(self, shelf, time, greatest):
        for key in ("a", "b", "new"):
            with self.assertRaises(Gone) as caught:
                shelf.at(key, time)
            self.assertEqual(caught.exception.time, greatest)

    def test_all_but_the_last_one_up_to_the_time(self):
        whole = stocked().versions("a")
        for time, left in [(-3, 0), (0, 0), (1, 0), (4, 0), (5, 3), (8, 3), (9, 4), (BIG, 4)]:
            shelf = stocked()
            self.assertIsNone(shelf.let_go(time))
            self.assertEqual(shelf.versions("a"), whole[left:])
            self.assertEqual(shelf.versions("b"), stocked().versions("b"))
            self.assertEqual(len(shelf), 6 - left)
            self.assertEqual(shelf.all_keys(), ["a", "b"])
            self.assertEqual(shelf.newest("a"), (9, 9, 9, 9))
            for at in (time, time + 1, time + 5):
                self.assertEqual(shelf.at("a", at), stocked().at("a", at))
                self.assertIsNone(shelf.at("new", at))
            self.gone(shelf, time - 1, time)
            self.gone(shelf, -BIG, time)

    def test_a_lesser_time_behind_a_greater_one(self):
        shelf = stocked()
        shelf.let_go(6)
        before = all_of(shelf)
        shelf.let_go(2)
        self.assertEqual(all_of(shelf), before)
        self.gone(shelf, 5, 6)
        self.gone(shelf, 1, 6)
        self.assertEqual(shelf.at("a", 6), (7,))
        shelf.let_go(8)
        self.gone(shelf, 7, 8)

    def test_a_lesser_time_lets_go_what_was_put_since(self):
        shelf = Shelf()
        shelf.let_go(10)
        for time in (1, 2, 3):
            shelf.put("a", (time, 0, 0), (time,))
        self.assertEqual(len(shelf), 3)
        shelf.let_go(2)
        self.assertEqual(shelf.versions("a"), [((2, 0, 0), (2,)), ((3, 0, 0), (3,))])
        self.gone(shelf, 9, 10)
        self.assertEqual(shelf.at("a", 10), (3,))

    def test_on_an_empty_shelf(self):
        shelf = Shelf()
        shelf.let_go(-7)
        self.gone(shelf, -8, -7)
        self.assertIsNone(shelf.at("a", -7))
        shelf.let_go(0)
        self.gone(shelf, -1, 0)
        self.assertEqual(all_of(shelf), ({}, 0))

    def test_the_last_stamp_still_bars_lesser_ones(self):
        shelf = stocked()
        shelf.let_go(BIG)
        with self.assertRaises(NoStamp):
            shelf.put("a", (9, 0, 0), (1,))
        shelf.put("a", (9, 0, 1), (1,))
        self.assertEqual(shelf.newest("a"), (1,))

    def test_told_ahead_stays_as_it_was(self):
        shelf = stocked()
        told = shelf.versions("a")
        shelf.let_go(9)
        self.assertEqual(told, stocked().versions("a"))


class Twins(unittest.TestCase):
    def test_each_goes_on_by_itself(self):
        shelf = stocked()
        twin = shelf.twin()
        self.assertIsInstance(twin, Shelf)
        self.assertEqual(all_of(twin), all_of(shelf))
        twin.put("a", (10, 0, 0), (10,))
        twin.put("new", (1, 0, 0), (1,))
        self.assertEqual(all_of(shelf), all_of(stocked()))
        shelf.put("b", (4, 0, 0), (4,))
        self.assertEqual(len(twin.versions("b")), 1)
        shelf.let_go(9)
        self.assertEqual(twin.at("a", 1), (1, 2))
        self.assertEqual(len(twin), 8)
        twin.let_go(2)
        self.assertEqual(twin.at("a", 2), (1, 2))
        with self.assertRaises(Gone) as caught:
            shelf.at("a", 8)
        self.assertEqual(caught.exception.time, 9)

    def test_a_twin_has_let_go_as_much(self):
        shelf = stocked()
        shelf.let_go(5)
        with self.assertRaises(Gone) as caught:
            shelf.twin().at("a", 4)
        self.assertEqual(caught.exception.time, 5)


if __name__ == "__main__":
    unittest.main()
