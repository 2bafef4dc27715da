"""Twins share what they keep till one of them changes it: none of them sees what another one does.

A family of twins is led by chance, the calls to each one are kept, and in the end each one is as a
new object to which just its own calls were made, one by one, and which never had a twin.
"""

import random
import unittest

from stampedwait.copies import Copies
from stampedwait.errors import (
    Bare, Early, Elsewhere, Gone, NoDealing, NoDeed, NoHead, NoHold, NoLetter, Off, Sure, WaitError, Waits)
from stampedwait.holds import Holds
from stampedwait.ledgers import Ledger
from stampedwait.shelves import Shelf
from tests.drawn import Drawer
from tests.made import ended, house_of, pledge_to, seen, tick_all
from tests.worlds import seen_world, world_of

REFUSALS = (
    Bare, Early, Elsewhere, Gone, NoDealing, NoDeed, NoHead, NoHold, NoLetter, Off, Sure, WaitError, Waits)
MOST_TWINS = 5
MODES = ("read", "write")


def call(thing, name, things, named):
    """What is told, or by what it is refused."""
    try:
        return getattr(thing, name)(*things, **named)
    except REFUSALS as refusal:
        return type(refusal)


def spoilt(thing):
    """Changes all lists and dicts that were told."""
    if isinstance(thing, (list, tuple)):
        for part in thing:
            spoilt(part)
    if isinstance(thing, dict):
        for key in list(thing):
            spoilt(thing[key])
        thing["spoilt"] = True
    if isinstance(thing, list):
        thing.append("spoilt")


class Families(unittest.TestCase):
    def lead(self, new, draw, see, steps, seeds=25):
        for seed in range(seeds):
            with self.subTest(seed=seed):
                self.lead_one(random.Random(seed), new, draw, see, steps)

    def lead_one(self, chance, new, draw, see, steps):
        family = [(new(), [])]
        for step in range(steps):
            thing, calls = chance.choice(family)
            if len(family) < MOST_TWINS and chance.randrange(6) == 0:
                family.append((thing.twin(), list(calls)))
                continue
            name, things, named = draw(chance, step, thing)
            spoilt(call(thing, name, things, named))
            calls.append((name, things, named))
            spoilt(see(thing))
        self.assertGreater(len(family), 1)
        for thing, calls in family:
            alone = new()
            for name, things, named in calls:
                call(alone, name, things, named)
            self.assertEqual(see(thing), see(alone))

    def test_shelves(self):
        def draw(chance, step, shelf):
            if chance.randrange(8) == 0:
                return "let_go", (step - chance.randrange(20),), {}
            return "put", (chance.choice("abc"), (step // 3, chance.randrange(3), 0), (step,)), {}

        def see(shelf):
            return [shelf.versions(key) for key in "abc"], shelf.all_keys(), len(shelf)

        self.lead(Shelf, draw, see, 60)

    def test_holds(self):
        def draw(chance, step, holds):
            dealing, key, mode = chance.randrange(6), chance.choice("abc"), chance.choice(MODES)
            return chance.choice(6 * [("ask", (dealing, key, mode), {"age": chance.choice([None, 3])})] + [
                ("pledge", (dealing,), {}), ("keep", (dealing, {key: mode}), {}),
                ("free", (dealing,), {"forget": chance.random() < 0.5})])

        def see(holds):
            return [holds.of(dealing) for dealing in range(6)], holds.waiting(), holds.called_off(), holds.pledged()

        self.lead(Holds, draw, see, 60)

    def test_copies(self):
        def new():
            copies = Copies(3, drift=(0, 1), lease=30)
            for copy in range(3):
                copies.set_clock(copy, 0, 2)
            return copies

        def draw(chance, step, copies):
            copy = chance.randrange(3)
            return chance.choice([
                ("tick_clock", (copy, 7), {}), ("set_clock", (copy, 0, 1000), {}), ("stop", (copy,), {}),
                ("back", (copy,), {}), ("back", (copy,), {}), ("choose", (copy,), {}), ("choose", (copy,), {}),
                ("renew", (), {}), ("catch_up", (copy,), {}), ("write", (("mark", step),), {}),
                ("write", (("mark", step),), {}), ("write", (("odd", [step, {"a": []}]),), {})])

        def see(copies):
            return (copies.reign(), copies.head(), copies.heads(), copies.book(),
                    [(copies.book(copy), copies.is_up(copy), copies.clock(copy)) for copy in range(3)])

        self.lead(new, draw, see, 80)

    def test_ledgers(self):
        def draw(chance, step, ledger):
            pending = ledger.pending()
            word = chance.choice(["pledge", "pledge", "sure", "done", "done", "off", "mark", "gone"])
            dealing = chance.choice(pending) if pending else None
            stamp = (step, 100 + step, 1)
            if word in ("mark", "gone"):
                return "note", ((word, step - chance.randrange(9)),), {}
            if word == "pledge" or dealing is None:
                more = chance.choice([None, ("move", chance.choice("abc"), 2), ("form", step, 2)])
                writes = ((chance.choice("abc"), (step,)),)
                return "note", (("pledge", step, 1, (1, 2), (step, step, 1), (), writes, more),), {}
            if word == "off" and ledger.word(dealing) == "pledged":
                return "note", (("off", dealing),), {}
            return "note", (("sure", dealing, stamp, step - 1) if word == "sure" else ("done", dealing, stamp),), {}

        def see(ledger):
            return ([(ledger.word(dealing), ledger.pledge_of(dealing), ledger.stamp_of(dealing),
                      ledger.low_of(dealing)) for dealing in range(60)],
                    ledger.pending(), ledger.last_stamp(), ledger.last_serial(), ledger.last_mark(), ledger.safe(),
                    [(ledger.house_of(key), ledger.house_at(key, 20), ledger.shelf().versions(key)) for key in "abc"],
                    [ledger.fields_at(time) for time in range(60)])

        self.lead(lambda: Ledger(1, 3), draw, see, 60)

    def test_houses(self):
        def draw(chance, step, house):
            dealing, key, copy = chance.randrange(8), chance.choice("ace"), chance.randrange(3)
            held = house.holds().of(dealing)
            writes = tuple((some, (step,)) for some in held if held[some] == "write")
            pledge = pledge_to(0, dealing, chance.choice([(0,), (0, 1), (1, 2)]), tuple(held), writes, None, house.reign())
            letter = (chance.choice(["yes", "no", "off", "what"]), dealing, chance.randrange(3), 0, (step, step, 1))
            hold = ("hold", (dealing, key, chance.choice(MODES)), {"reign": house.reign()})
            return chance.choice(4 * [hold] + 3 * [("receive", (pledge,), {})] + [
                ("receive", (letter,), {}), ("receive", (("done", dealing, 1, 0, (step, 200 + step, 1)),), {}),
                ("tell", (dealing,), {}), ("give_up", (dealing,), {}), ("mark", (), {}), ("renew", (), {}),
                ("read", (key, step // 2), {"copy": chance.choice([None, copy])}), ("let_go", (step // 3,), {}),
                ("tick_clock", (copy, 5), {}), ("stop", (copy,), {}), ("back", (copy,), {}), ("back", (copy,), {}),
                ("catch_up", (copy,), {}), ("choose", (copy,), {}), ("drop", (dealing,), {})])

        def see(house):
            reads = [call(house, "look", (key, time), {"copy": copy})
                     for key in "ace" for time in range(0, 60, 5) for copy in range(3)]
            return seen(house), reads

        self.lead(lambda: house_of(copies=3, lease=40), draw, see, 90)

    def test_worlds(self):
        for seed in range(25):
            with self.subTest(seed=seed):
                self.lead_worlds(random.Random(seed))

    def lead_worlds(self, chance):
        drawer = Drawer(chance)
        first = drawer.world.twin()
        rows = []
        for step in range(50):
            rows.append([drawer.step()[0]] + [drawer.draw() for more in range(chance.randrange(3))])
        family = [(first.twin(), [])]
        for row in rows:
            world, calls = chance.choice(family)
            if len(family) < MOST_TWINS and chance.randrange(6) == 0:
                family.append((world.twin(), list(calls)))
            spoilt(call(world, "play", (row,), {}))
            spoilt((world.letters(), world.history(), world.waiting(), world.book()))
            calls.append(row)
        was = seen_world(first)
        for world, calls in family:
            alone = first.twin()
            for row in calls:
                call(alone, "play", (row,), {})
            self.assertEqual(seen_world(world), seen_world(alone))
        self.assertEqual(seen_world(first), was)


class BooksOfCopiesBehind(unittest.TestCase):
    """What was noted of a copy's book is kept for the next read, but never for another book."""

    def write_and_lag(self, house, worth):
        """Copy 2 has this worth of a, but lacks the one behind it."""
        ended(house, 1, 12, writes=(("a", worth),))
        tick_all(house, 20)
        house.mark()
        house.stop(2)
        ended(house, 2, 30, writes=(("a", (9,)),))
        house.back(2)

    def test_two_twins_with_books_of_one_length(self):
        house = house_of(copies=3)
        twin = house.twin()
        for asked, worth in ((house, (1,)), (twin, (2,))):
            self.write_and_lag(asked, worth)
        for again in range(2):
            self.assertEqual(house.look("a", 15, copy=2), (1,))
            self.assertEqual(twin.look("a", 15, copy=2), (2,))

    def test_a_copy_that_is_given_the_book_reads_on(self):
        house = house_of(copies=3)
        self.write_and_lag(house, (1,))
        self.assertEqual(house.look("a", 15, copy=2), (1,))
        with self.assertRaises(Waits) as caught:
            house.look("a", 30, copy=2)
        self.assertEqual(caught.exception.time, 20)
        house.catch_up(2)
        tick_all(house, 20)
        house.mark()
        self.assertEqual(house.look("a", 30, copy=2), (9,))

    def test_a_row_that_is_refused_leaves_nothing_of_its_book(self):
        def lagging(worth):
            """Copy 2 has this worth of a and a mark, but lacks the mark behind it, and reads."""
            return [("begin",), ("take", 0, "a", "write"), ("write", 0, "a", worth), ("finish", 0), ("deliver", 0),
                    ("tick", 5), ("tell", 0), ("mark", 0), ("stop", 0, 2), ("tick", 1), ("mark", 0), ("back", 0, 2),
                    ("copy", 2, 5, ("a",))]

        world = world_of(1, copies=3)
        self.assertEqual(world.twin().play(lagging((1,)))[-1], {"a": (1,)})
        with self.assertRaises(Early):
            world.play(lagging((2,)) + [("at", 100, ("a",))])
        self.assertEqual(world.play(lagging((3,)))[-1], {"a": (3,)})

    def test_more_beginnings_than_are_kept(self):
        house = house_of(copies=5)
        for step in range(20):
            tick_all(house, 3)
            house.mark()
            house.stop(4)
            tick_all(house, 1)
            mark = house.mark()
            house.back(4)
            with self.assertRaises(Waits) as caught:
                house.look("a", mark, copy=4)
            self.assertEqual(caught.exception.time, mark - 1)
            self.assertIsNone(house.look("a", mark - 1, copy=4))
            house.catch_up(4)
            self.assertIsNone(house.look("a", mark, copy=4))


class Trials(unittest.TestCase):
    """Where a row is tried is nobody's world: twins have it in common and don't meet in it."""

    def test_twins_that_play_in_turns(self):
        world = world_of()
        world.play([("begin",)])
        twins = [world.twin() for number in range(3)]
        for step in range(4):
            for number, twin in enumerate(twins):
                twin.play([("begin",)] * number + [("tick", number + 1)])
                with self.assertRaises(NoDealing):
                    twin.play([("begin",), ("tick", 50), ("finish", 99)])
        for number, twin in enumerate(twins):
            self.assertEqual((len(twin), twin.true_now()), (1 + 4 * number, 4 * (number + 1)))
            self.assertEqual(twin.book(), ["open", "shut"] * 8)
        self.assertEqual((len(world), world.true_now()), (1, 0))

    def test_calls_between_playings(self):
        world, other = world_of(), world_of()
        for step in range(5):
            world.play([("begin",), ("take", 2 * step, "a", "read")])
            other.begin()
            other.take(2 * step, "a", "read")
            for some in (world, other):
                some.begin()
                some.take(2 * step + 1, "b", "read")
                some.finish(2 * step)
                some.tick()
            self.assertEqual(seen_world(world), seen_world(other))

    def test_a_thing_of_another_kind_changes_nothing(self):
        # no refusal is told of it, but the world is as ahead all the same
        world = world_of()
        was = seen_world(world)
        with self.assertRaises(TypeError):
            world.play([("begin",), ("tick", 5), ("take", 0, "a", "read"), Stubborn(("tick", 1))])
        self.assertEqual(seen_world(world), was)
        self.assertEqual(world.play([("begin",)]), [0])


class Stubborn(tuple):
    def __getitem__(self, at):
        raise TypeError("not to be asked")


if __name__ == "__main__":
    unittest.main()
