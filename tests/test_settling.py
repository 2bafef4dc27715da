"""A world is settled, round by round (31)."""

import random
import unittest

from stampedwait.errors import Waits
from stampedwait.moving import form_ahead, move
from stampedwait.settling import settle
from stampedwait.snapshots import read_at, read_now
from tests.drawn import Drawer
from tests.worlds import WorldCase, deliver_all, sure_of, told_at_last, world_of, wrote


class Settling(WorldCase):
    def settled(self, world, rounds):
        self.assertEqual(settle(world=world), rounds)
        for dealing in range(len(world)):
            self.assertIn(world.word(dealing), ("sure", "off"))
        for house in range(world.houses()):
            seen = world.seen_house(house)
            self.assertEqual((seen.ledger().pending(), seen.holds().pledged()), ([], []))
            self.assertIsNotNone(seen.head())
        self.assertEqual(world.letters(), {})
        self.assertEqual(self.unchanged(world, lambda: settle(world)), 0)

    def test_nought_where_it_is_so_already(self):
        for world in (world_of(), world_of(heads=False)):
            self.assertEqual(self.unchanged(world, lambda: settle(world)), 0)
        world = world_of()
        sure_of(world, {"a": (1,), "b": (2,)})
        dealing = world.begin()
        world.give_up(dealing)
        world.tell(0)
        world.stop(0, 0)
        self.assertEqual(len(world.letters()), 1)
        self.assertEqual(self.unchanged(world, lambda: settle(world)), 0)

    def test_open_ones_are_given_up(self):
        world = world_of()
        dealing = world.begin()
        world.take(dealing, "a", "write")
        self.settled(world, 1)
        self.assertEqual(world.word(dealing), "off")
        self.assertEqual(world.seen_house(0).holds().of(dealing), {})

    def test_what_was_never_pledged_is_off(self):
        world = world_of(2, copies=3)
        dealing = wrote(world, {"a": (1,), "b": (2,)})
        for number in (0, 1):
            world.lose(number)
        self.settled(world, 1)
        self.assertEqual((world.word(dealing), world.history()), ("off", []))

    def test_what_is_pledged_at_some_houses_is_off(self):
        for number in (0, 1):
            world = world_of(2, copies=3)
            dealing = wrote(world, {"a": (1,), "b": (2,)})
            world.deliver(number)
            for lost in list(world.letters()):
                world.lose(lost)
            self.settled(world, 1)
            self.assertEqual(world.word(dealing), "off")

    def test_what_is_pledged_at_all_houses_is_sure(self):
        world = world_of(2, copies=3)
        dealing = wrote(world, {"a": (1,), "b": (2,)})
        for number in (0, 1):
            world.deliver(number)
        for number in list(world.letters()):
            world.lose(number)
        self.settled(world, 2)
        self.assertEqual(world.word(dealing), "sure")
        self.assertEqual([row[1] for row in world.history()], [dealing])
        self.assertEqual(world.seen_house(1).ledger().word(dealing), "done")

    def test_what_is_sure_is_told(self):
        world = world_of(2)
        dealing = wrote(world, {"a": (1,), "b": (2,)})
        deliver_all(world)
        self.settled(world, 1)
        self.assertEqual(world.word(dealing), "sure")

    def test_what_was_told_is_told_to_the_other_houses(self):
        world = world_of(2)
        dealing = wrote(world, {"a": (1,), "b": (2,)})
        deliver_all(world)
        world.tick()
        stamp = world.tell(dealing)
        for number in list(world.letters()):
            world.lose(number)
        self.settled(world, 1)
        self.assertEqual(world.seen_house(1).ledger().stamp_of(dealing), stamp)
        self.assertEqual(len(world.history()), 1)

    def test_what_is_off_at_its_home_alone(self):
        world = world_of(2)
        dealing = wrote(world, {"a": (1,), "b": (2,)})
        world.deliver(1)
        world.give_up(dealing)
        for number in list(world.letters()):
            world.lose(number)
        self.assertEqual((world.word(dealing), world.seen_house(1).ledger().pending()), ("off", [dealing]))
        self.settled(world, 1)

    def test_without_heads_and_with_copies_stopped(self):
        world = world_of(3, copies=5)
        dealing = wrote(world, {"a": (1,), "b": (2,), "c": (3,)})
        for number in range(3):
            world.deliver(number)
        for house in range(3):
            for copy in range(5):
                world.stop(house, copy)
        world.tick(50)
        self.settled(world, 2)
        self.assertEqual(world.word(dealing), "sure")
        for house in range(3):
            copies = world.seen_house(house).copies()
            for copy in range(5):
                self.assertTrue(copies.is_up(copy))
                self.assertEqual(copies.book(copy), copies.book())

    def test_true_time_goes_on_till_all_promises_are_past(self):
        world = world_of(2, copies=3, lease=1000)
        world.begin()
        self.settled(world, 1)
        self.assertEqual(world.true_now(), 1001)
        self.assertEqual(world.seen_house(0).floor(), 1000)
        for house in (0, 1):
            for copy in range(3):
                self.assertEqual(world.seen_house(house).copies().clock(copy).bounds()[0], world.true_now())

    def test_by_as_little_as_one_tick(self):
        world = world_of(2, lease=1)
        world.begin()
        world.tick()
        self.settled(world, 1)
        self.assertEqual(world.true_now(), 2)

    def test_promises_that_are_past_already(self):
        world = world_of(2, lease=10)
        world.begin()
        world.tick(50)
        self.settled(world, 1)
        self.assertEqual(world.true_now(), 50)

    def test_copies_are_given_books(self):
        world = world_of(2, copies=3)
        world.stop(0, 2)
        world.stop(1, 1)
        sure_of(world, {"a": (1,), "b": (2,)})
        world.begin()
        self.settled(world, 1)
        for house in (0, 1):
            copies = world.seen_house(house).copies()
            self.assertEqual([copies.book(copy) for copy in range(3)], [copies.book()] * 3)
            self.assertGreater(len(copies.book()), 1)

    def test_moves_and_forms(self):
        world = world_of(2)
        sure_of(world, {"a": (1, 2)})
        moved = move(world, "a", 1)
        world.finish(moved)
        deliver_all(world)
        form = form_ahead(world, 5000, 1)
        world.finish(form)
        deliver_all(world)
        self.settled(world, 1)
        self.assertEqual((world.word(moved), world.word(form), world.house_with("a")), ("sure", "sure", 1))
        world.tick(6000)
        world.choose(0, 0)
        world.choose(1, 0)
        self.assertEqual(read_at(world, 4999, ["a"]), {"a": (1, 2)})
        self.assertEqual(read_at(world, 5000, ["a"]), {"a": (1,)})

    def test_a_form_whose_time_is_over_is_off(self):
        world = world_of(2)
        form = form_ahead(world, 30, 1)
        world.finish(form)
        for number in (0, 1):
            world.deliver(number)
        self.settled(world, 1)
        self.assertEqual(world.word(form), "off")

    def test_letters_that_had_to_wait_for_a_form(self):
        world = world_of(2)
        form = form_ahead(world, 30, 1)
        world.finish(form)
        deliver_all(world)
        world.tick(40)
        late = wrote(world, {"a": (1,)})
        self.raised(Waits, lambda: world.deliver(max(world.letters())), time=30)
        self.settled(world, 1)
        self.assertEqual((world.word(form), world.word(late)), ("sure", "off"))

    def test_the_world_goes_on_to_serve(self):
        world = world_of(2, copies=3, drift=(1, 10))
        world.begin()
        wrote(world, {"a": (1,)})
        self.settled(world, 1)
        dealing = wrote(world, {"a": (5,), "b": (6,)}, reads=("c",))
        told_at_last(world, dealing, 200)
        self.assertEqual(world.word(dealing), "sure")
        world.set_clock(0, 0)
        world.set_clock(1, 0)
        self.assertEqual(read_now(world, 0, ["a", "b"]), {"a": (5,), "b": (6,)})

    def test_the_longest_wait_is_told_of_it_too(self):
        world = world_of(1, drift=(1, 10))
        world.pace(0, 0, (11, 10))
        self.assertEqual(world.told_wait(), 3)
        world.begin()
        self.settled(world, 1)
        # the lease of 1000 was waited out in one going on
        many = world.true_now()
        self.assertEqual(many, 1002)
        counted = many * 11 // 10
        self.assertEqual(world.told_wait(), ((counted + 1) * 10 - 1) // 9 - many + 2)

    def test_clocks_are_set_ahead_of_the_wait(self):
        world = world_of(1, drift=(1, 10), lease=10)
        world.pace(0, 0, (11, 10))
        world.tick(1000)
        wide = world.told_wait()
        world.choose(0, 0)
        world.begin()
        self.settled(world, 1)
        # from the true time alone the bounds go apart less than they were
        self.assertEqual(world.told_wait(), wide)

    def test_drifts_close_to_one(self):
        world = world_of(2, copies=2, drift=(999, 1000))
        for house in (0, 1):
            world.pace(house, 0, (1999, 1000))
        world.tick(10000)
        for house in (0, 1):
            world.set_clock(house, 1)
        dealing = world.begin()
        self.settled(world, 1)
        self.assertEqual(world.word(dealing), "off")

    def test_from_wherever_a_driver_stands(self):
        chance = random.Random(5)
        rounds = set()
        for run in range(60):
            world = Drawer(chance).world if run == 0 else self.driven(chance)
            rounds.add(settle(world))
            for dealing in range(len(world)):
                self.assertIn(world.word(dealing), ("sure", "off"))
            self.assertEqual(settle(world), 0)
        self.assertLessEqual(max(rounds), 20)
        self.assertIn(2, rounds)

    def driven(self, chance):
        drawer = Drawer(chance)
        for step in range(chance.randrange(20, 150)):
            drawer.step()
        return drawer.world


if __name__ == "__main__":
    unittest.main()
