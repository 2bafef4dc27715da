"""Worths read at times and now, by the heads and by copies (23, 24)."""

import unittest

from stampedwait.errors import Early, Gone, NoCopy, NoHead, NoKey, NoNumber, Waits
from stampedwait.moving import form_ahead, move
from stampedwait.snapshots import read_at, read_now
from tests.things import BIG, ODD
from tests.worlds import WorldCase, deliver_all, reign_anew, sure_of, told_at_last, world_of, wrote


def stocked(**more):
    """a (1,) from 10 on and (2,) from 20 on, b (3,) from 10 on; it is 30."""
    world = world_of(**more)
    world.tick(10)
    sure_of(world, {"a": (1,), "b": (3,)})
    world.tick(20 - world.true_now())
    sure_of(world, {"a": (2,)})
    world.tick(30 - world.true_now())
    return world


def reads_of(world):
    return [row for row in world.history() if row[0] in ("read", "now")]


class AtTimes(WorldCase):
    def test_by_the_heads(self):
        world = stocked()
        for time, worths in ((-5, (None, None)), (9, (None, None)), (10, ((1,), (3,))), (19, ((1,), (3,))),
                             (20, ((2,), (3,))), (30, ((2,), (3,)))):
            self.assertEqual(read_at(world, time, ["a", "b"]), {"a": worths[0], "b": worths[1]})
        self.assertEqual(read_at(world=world, time=20, keys=("a",), copy=None), {"a": (2,)})

    def test_keys_in_their_order_each_once(self):
        world = stocked()
        for keys in (["b", "a", "b", "c", "a"], ("b", "a", "b", "c", "a")):
            was = len(world.history())
            told = read_at(world, 15, keys)
            self.assertEqual(list(told.items()), [("b", (3,)), ("a", (1,)), ("c", None)])
            self.assertEqual(world.history()[was:], [
                ("read", 30, 15, "b", (3,)), ("read", 30, 15, "a", (1,)), ("read", 30, 15, "c", None)])

    def test_no_keys(self):
        world = stocked()
        world.stop(0, 0)
        for keys in ([], ()):
            for copy in (None, 0, 9, "x"):
                self.assertEqual(self.unchanged(world, lambda: read_at(world, 999, keys, copy=copy)), {})
            self.refused(world, NoNumber, lambda: read_at(world, "x", keys, copy="x"))

    def test_the_floor_rises_where_it_is_read(self):
        world = stocked()
        read_at(world, 25, ["a", "c"])
        self.assertEqual([world.seen_house(house).floor() for house in (0, 1)], [25, -1])

    def test_the_order_of_refusals(self):
        world = stocked(heads=True)
        world.stop(0, 0)
        world.stop(1, 0)
        self.refused(world, NoNumber, lambda: read_at(world, "x", ["A"], copy=9))
        self.refused(world, NoKey, lambda: read_at(world, 99, ["a", "A"], copy=9), key="A")
        self.refused(world, NoCopy, lambda: read_at(world, 99, ["a"], copy=9), copy=9)
        self.refused(world, NoHead, lambda: read_at(world, 99, ["b", "a"]), house=1)

    def test_of_anything(self):
        world = stocked()
        for thing in ODD:
            self.refused(world, NoNumber, lambda: read_at(world, thing, ["a"]))
            with self.assertRaises(NoKey) as caught:
                read_at(world, 15, ["a", thing, "b"])
            self.assertIs(caught.exception.key, thing)
            self.assertRaises(NoKey, lambda: read_now(world, 0, ("b", thing)))
        for thing in ODD + [1, -1, BIG]:
            if thing is not None:
                with self.assertRaises(NoCopy) as caught:
                    read_at(world, 15, ["a"], copy=thing)
                self.assertIs(caught.exception.copy, thing)
        self.assertEqual(reads_of(world), [])

    def test_no_row_of_keys(self):
        world = stocked()
        for thing in (None, 5, "ab", {"a": 1}, {"a"}):
            self.refused(world, NoKey, lambda: read_at(world, 15, thing), key=thing)
            self.refused(world, NoKey, lambda: read_now(world, 0, thing), key=thing)

    def test_what_is_told_by_a_house(self):
        world = stocked(copies=3)
        self.refused(world, Early, lambda: read_at(world, 31, ["a"]), time=31)
        wrote(world, {"c": (5,)})
        deliver_all(world)
        self.refused(world, Waits, lambda: read_at(world, 30, ["b", "a"]), time=30)
        self.assertEqual(read_at(world, 29, ["a"]), {"a": (2,)})
        world.let_go(0, 25)
        self.refused(world, Gone, lambda: read_at(world, 24, ["b", "a"]), time=25)
        world.stop(0, 0)
        self.refused(world, NoHead, lambda: read_at(world, 29, ["b", "a"]), house=0)

    def test_nothing_is_kept_where_one_is_refused(self):
        world = stocked()
        world.stop(1, 0)
        self.refused(world, NoHead, lambda: read_at(world, 25, ["a", "c", "b"]), house=1)
        self.assertEqual((reads_of(world), world.seen_house(0).floor()), ([], -1))

    def test_told_dicts_are_the_askers_own(self):
        world = stocked()
        keys = ["a"]
        told = read_at(world, 15, keys)
        told["a"] = (9,)
        self.assertEqual(keys, ["a"])
        self.assertEqual(read_at(world, 15, keys), {"a": (1,)})


class ByCopies(WorldCase):
    def test_of_their_own_books(self):
        world = world_of(copies=3)
        world.stop(0, 2)
        world.tick(10)
        sure_of(world, {"a": (1,)})
        world.tick(5)
        self.assertEqual(world.mark(0), 16)
        self.assertEqual(self.unchanged_floor(world, 16, 1), {"a": (1,)})
        world.back(0, 2)
        self.refused(world, Waits, lambda: read_at(world, 5, ["a"], copy=2), time=-1)
        world.catch_up(0, 2)
        self.assertEqual(self.unchanged_floor(world, 10, 2), {"a": (1,)})
        self.refused(world, Waits, lambda: read_at(world, 17, ["a"], copy=2), time=16)

    def unchanged_floor(self, world, time, copy):
        floor = world.seen_house(0).floor()
        told = read_at(world, time, ["a"], copy=copy)
        self.assertEqual(world.seen_house(0).floor(), floor)
        return told

    def test_without_a_head(self):
        world = world_of(copies=3)
        world.tick(10)
        sure_of(world, {"a": (1,)})
        world.mark(0)
        world.stop(0, 0)
        self.assertEqual(read_at(world, 10, ["a"], copy=1), {"a": (1,)})
        self.refused(world, NoHead, lambda: read_at(world, 10, ["a"], copy=0), house=0)
        self.refused(world, NoHead, lambda: read_at(world, 10, ["a"]), house=0)

    def test_the_heads_number_is_as_no_copy(self):
        world = stocked(copies=2)
        self.assertEqual(read_at(world, 28, ["a", "b"], copy=0), {"a": (2,), "b": (3,)})
        self.assertEqual([world.seen_house(house).floor() for house in (0, 1)], [28, 28])
        self.refused(world, Early, lambda: read_at(world, 31, ["a"], copy=0), time=31)

    def test_at_each_house_by_the_copy_of_that_number(self):
        world = stocked(copies=2)
        reign_anew(world, 1, 1)
        self.assertEqual([world.seen_house(house).head() for house in (0, 1)], [0, 1])
        world.mark(0)
        floor = world.seen_house(0).floor()
        self.assertEqual(read_at(world, 40, ["a", "b"], copy=1), {"a": (2,), "b": (3,)})
        self.assertEqual(world.seen_house(0).floor(), floor)
        self.assertGreaterEqual(world.seen_house(1).floor(), 40)

    def test_kept_as_read(self):
        world = stocked(copies=2)
        world.mark(0)
        read_at(world, 12, ("a",), copy=1)
        self.assertEqual(reads_of(world), [("read", 30, 12, "a", (1,))])


class Now(WorldCase):
    def test_at_the_heads_high(self):
        world = stocked()
        self.assertEqual(read_now(world, 0, ["b", "a", "b"]), {"b": (3,), "a": (2,)})
        self.assertEqual(reads_of(world), [("now", 30, 30, "b", (3,)), ("now", 30, 30, "a", (2,))])
        self.assertEqual(read_now(world=world, house=1, keys=("a",)), {"a": (2,)})

    def test_by_unsure_clocks(self):
        world = stocked(drift=(1, 10))
        world.set_clock(1, 0)
        low, high = world.seen_house(1).bounds()
        self.assertEqual(read_now(world, 1, ["a"]), {"a": (2,)})
        self.assertEqual(reads_of(world), [("now", 30, high, "a", (2,))])
        late = world.seen_house(0).bounds()[1]
        self.assertGreater(late, high)
        # the other house's head isn't so far: the driver may let time go on and ask again
        self.refused(world, Early, lambda: read_now(world, 0, ["b"]), time=late)
        world.tick(5)
        self.assertEqual(read_at(world, late, ["b"]), {"b": (3,)})

    def test_lacks_no_dealing_that_was_told_sure(self):
        world = stocked()
        dealing = wrote(world, {"a": (4,), "b": (5,)})
        deliver_all(world)
        world.tick()
        world.tell(dealing)
        # the letter that says so lies still
        self.assertEqual(read_now(world, 1, ["a"]), {"a": (4,)})
        self.refused(world, Waits, lambda: read_now(world, 0, ["a", "b"]), time=30)
        deliver_all(world)
        self.assertEqual(read_now(world, 0, ["a", "b"]), {"a": (4,), "b": (5,)})

    def test_the_order_of_refusals(self):
        world = stocked()
        world.stop(1, 0)
        for keys in ([], ["A"], ["a"]):
            self.refused(world, NoCopy, lambda: read_now(world, 2, keys), copy=2)
            self.refused(world, NoHead, lambda: read_now(world, 1, keys), house=1)
        self.refused(world, NoKey, lambda: read_now(world, 0, ["b", "A"]), key="A")
        self.refused(world, NoHead, lambda: read_now(world, 0, ["a", "b"]), house=1)
        self.assertEqual(self.unchanged(world, lambda: read_now(world, 0, [])), {})
        for thing in ODD + [-1, BIG]:
            with self.assertRaises(NoCopy) as caught:
                read_now(world, thing, ["A"])
            self.assertIs(caught.exception.copy, thing)


class WhereKeysAre(WorldCase):
    def moved(self):
        """a is at house 0 till 40, then at house 2, from 50 on at house 1; it is 60."""
        world = stocked(houses=3)
        for time, to in ((40, 2), (50, 1), (60, None)):
            world.tick(time - world.true_now())
            if to is not None:
                dealing = move(world, "a", to)
                world.finish(dealing)
                self.assertEqual(told_at_last(world, dealing)[0], time)
        return world

    def test_elsewhere_is_followed(self):
        world = self.moved()
        sure_of(world, {"a": (9,)})
        world.tick()
        for time, worth, house in ((9, None, 0), (15, (1,), 0), (39, (2,), 0), (40, (2,), 2), (49, (2,), 2),
                                   (50, (2,), 1), (59, (2,), 1), (60, (9,), 1)):
            floors = [world.seen_house(number).floor() for number in range(3)]
            self.assertEqual(read_at(world, time, ["a"]), {"a": worth})
            floors[house] = max(floors[house], time)
            self.assertEqual([world.seen_house(number).floor() for number in range(3)], floors)

    def test_asked_first_is_the_house_where_it_is_first(self):
        world = self.moved()
        world.stop(1, 0)
        self.assertEqual(read_at(world, 45, ["a"]), {"a": (2,)})
        world.stop(0, 0)
        self.refused(world, NoHead, lambda: read_at(world, 45, ["a"]), house=0)

    def test_now(self):
        world = self.moved()
        self.assertEqual(read_now(world, 2, ["a"]), {"a": (2,)})
        self.assertEqual(world.history()[-1], ("now", 60, 60, "a", (2,)))

    def test_worths_have_the_form_of_the_time(self):
        world = stocked()
        dealing = form_ahead(world, 40, 3)
        world.finish(dealing)
        told_at_last(world, dealing)
        world.tick(20)
        self.assertEqual(read_at(world, 39, ["a", "b", "c"]), {"a": (2,), "b": (3,), "c": None})
        self.assertEqual(read_at(world, 40, ["a", "b", "c"]), {"a": (2, 0, 0), "b": (3, 0, 0), "c": None})


class Beside(WorldCase):
    def test_look_and_rise(self):
        world = stocked()
        self.assertEqual(self.unchanged(world, lambda: world.look(0, "a", 15)), (1,))
        self.assertEqual(world.look(house=0, key="a", time=25, copy=0), (2,))
        self.assertIsNone(world.rise(0, 15))
        self.assertEqual(world.seen_house(0).floor(), 15)
        world.rise(house=0, time=20, copy=0)
        self.assertEqual(world.seen_house(0).floor(), 20)
        for thing in ODD:
            with self.assertRaises(NoKey) as caught:
                world.look(0, thing, "x")
            self.assertIs(caught.exception.key, thing)
        self.refused(world, NoCopy, lambda: world.look(0, "A", "x", copy=5), copy=5)
        self.refused(world, NoNumber, lambda: world.look(0, "a", "x"))

    def test_keep_read(self):
        world = stocked()
        self.assertIsNone(world.keep_read("now", 5, "a", None))
        world.keep_read(word="read", time=6, key="b", worth=(1,))
        self.assertEqual(reads_of(world), [("now", 30, 5, "a", None), ("read", 30, 6, "b", (1,))])


if __name__ == "__main__":
    unittest.main()
