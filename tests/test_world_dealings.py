"""Dealings of a world: begun, tried again, taking, reading, writing, finished, told, given up (20, 22, 24)."""

import unittest

from stampedwait.errors import Bare, Elsewhere, NoCopy, NoDealing, NoHead, NoHold, NoKey, NoWorth, Off, Sure, Waits
from stampedwait.moving import form_ahead, move
from tests.things import BIG, ODD
from tests.worlds import WorldCase, deliver_all, reign_anew, sure_of, told_at_last, world_of, wrote


def called_off_one(world, key="a"):
    """(elder, younger): the younger one was called off at the key's house, and stays open."""
    elder = world.begin()
    younger = world.begin()
    world.take(younger, key, "write")
    world.take(elder, key, "write")
    return elder, younger


class Beginning(WorldCase):
    def test_numbers_from_nought(self):
        world = world_of()
        self.assertEqual([world.begin() for step in range(3)], [0, 1, 2])
        self.assertEqual([world.age_of(dealing) for dealing in range(3)], [0, 1, 2])
        self.assertEqual([world.word(dealing=dealing) for dealing in range(3)], ["open"] * 3)
        self.assertEqual(len(world), 3)

    def test_no_dealing_of_anything(self):
        world = world_of()
        world.begin()
        for thing in ODD + [1, -1, BIG]:
            for deed in (lambda: world.word(thing), lambda: world.age_of(thing), lambda: world.again(thing),
                         lambda: world.take(thing, "A", "x"), lambda: world.read(thing, "A"),
                         lambda: world.write(thing, "A", "x"), lambda: world.finish(thing),
                         lambda: world.tell(thing), lambda: world.give_up(thing), lambda: world.put_off(thing),
                         lambda: world.take_at(thing, 9, "A", "x"), lambda: world.read_in_house(thing, 9, "A"),
                         lambda: world.put_in_house(thing, 9, "A", "x")):
                with self.assertRaises(NoDealing) as caught:
                    deed()
                self.assertIs(caught.exception.dealing, thing)
        self.assertEqual(len(world), 1)


class Again(WorldCase):
    def test_with_the_age_of_the_first_try(self):
        world = world_of()
        world.begin()
        first = world.begin()
        world.give_up(first)
        second = world.again(first)
        self.assertEqual((second, world.age_of(second), world.word(second)), (2, 1, "open"))
        world.give_up(second)
        third = world.again(dealing=second)
        self.assertEqual((third, world.age_of(third)), (3, 1))
        self.assertEqual(world.age_of(dealing=first), 1)

    def test_its_age_is_told_to_the_houses(self):
        world = world_of()
        first = world.begin()
        world.give_up(first)
        other = world.begin()
        world.take(other, "a", "write")
        self.assertEqual(world.take(world.again(first), "a", "write"), "held")
        self.assertEqual(world.seen_house(0).holds().called_off(), [other])

    def test_one_that_is_off_by_its_home(self):
        world = world_of()
        elder, younger = called_off_one(world)
        world.finish(younger)
        deliver_all(world)
        self.assertEqual(world.word(younger), "off")
        self.assertEqual(world.age_of(world.again(younger)), younger)

    def test_no_dealing_of_one_that_is_not_off(self):
        world = world_of()
        dealing = world.begin()
        self.refused(world, NoDealing, lambda: world.again(dealing), dealing=dealing)
        world.take(dealing, "a", "read")
        world.finish(dealing)
        self.refused(world, NoDealing, lambda: world.again(dealing), dealing=dealing)
        told_at_last(world, dealing)
        self.refused(world, NoDealing, lambda: world.again(dealing), dealing=dealing)

    def test_no_dealing_of_a_move_and_of_a_form(self):
        world = world_of()
        for dealing in (move(world, "a", 1), form_ahead(world, 50, 2)):
            world.give_up(dealing)
            self.assertEqual(world.word(dealing), "off")
            self.refused(world, NoDealing, lambda: world.again(dealing), dealing=dealing)


class Taking(WorldCase):
    def test_held_and_waits(self):
        world = world_of()
        elder, younger = world.begin(), world.begin()
        self.assertEqual(world.take(elder, "a", "read"), "held")
        self.assertEqual(world.take(younger, "a", "read"), "held")
        self.assertEqual(world.take(younger, "a", "write"), "waits")
        self.assertEqual(world.waiting(), {younger: [elder]})
        self.assertEqual(world.take(dealing=younger, key="b", mode="write"), "held")
        self.assertEqual(world.seen_house(0).holds().of(younger), {"a": "read"})
        self.assertEqual(world.seen_house(1).holds().of(younger), {"b": "write"})

    def test_the_order_of_refusals(self):
        world = world_of(heads=False)
        dealing = world.begin()
        world.give_up(dealing)
        self.refused(world, NoDealing, lambda: world.take(7, "A", "x"), dealing=7)
        self.refused(world, NoKey, lambda: world.take(dealing, "A", "x"), key="A")
        self.refused(world, NoHold, lambda: world.take(dealing, "a", "x"), key="a")
        self.refused(world, Off, lambda: world.take(dealing, "a", "read"), dealing=dealing)
        other = world.begin()
        self.refused(world, NoHold, lambda: world.take(other, "b", "reads"), key="b")
        self.refused(world, NoHead, lambda: world.take(other, "b", "read"), house=1)
        self.assertEqual(world.word(other), "open")

    def test_no_key_and_no_way_of_anything(self):
        world = world_of()
        dealing = world.begin()
        for thing in ODD + [5]:
            with self.assertRaises(NoKey) as caught:
                world.take(dealing, thing, "read")
            self.assertIs(caught.exception.key, thing)
            self.refused(world, NoHold, lambda: world.take(dealing, "a", thing), key="a")

    def test_not_open(self):
        world = world_of()
        asked = wrote(world, {"a": (1,)})
        sure = sure_of(world, {"c": (1,)})
        for dealing in (asked, sure):
            for deed in (lambda: world.take(dealing, "a", "read"), lambda: world.read(dealing, "a"),
                         lambda: world.write(dealing, "a", (1,))):
                self.refused(world, Off, deed, dealing=dealing)

    def test_called_off_there_it_is_off_for_good(self):
        world = world_of()
        elder, younger = world.begin(), world.begin()
        world.take(younger, "a", "write")
        world.take(younger, "b", "write")
        world.take(elder, "a", "write")
        self.assertEqual(world.word(younger), "open")
        self.assertEqual(world.take(younger, "d", "read"), "held")
        self.raised(Off, lambda: world.take(younger, "c", "read"), dealing=younger)
        self.assertEqual(world.word(younger), "off")
        self.assertEqual(world.seen_house(1).holds().of(younger), {})
        self.refused(world, Off, lambda: world.take(younger, "b", "read"), dealing=younger)

    def test_by_another_reign_it_is_off_for_good(self):
        world = world_of()
        dealing = world.begin()
        world.take(dealing, "a", "write")
        world.take(dealing, "b", "write")
        reign_anew(world)
        self.raised(Off, lambda: world.take(dealing, "a", "write"), dealing=dealing)
        self.assertEqual((world.word(dealing), world.seen_house(1).holds().of(dealing)), ("off", {}))

    def test_who_only_waited_may_ask_by_a_new_reign(self):
        world = world_of()
        elder, younger = world.begin(), world.begin()
        world.take(elder, "a", "write")
        self.assertEqual(world.take(younger, "a", "write"), "waits")
        reign_anew(world)
        self.assertEqual(world.take(younger, "a", "write"), "held")

    def test_no_head_goes_ahead_of_off_for_good(self):
        world = world_of(copies=3)
        elder, younger = called_off_one(world)
        world.stop(0, 0)
        self.refused(world, NoHead, lambda: world.take(younger, "a", "read"), house=0)
        self.assertEqual(world.word(younger), "open")

    def test_where_the_key_is_now(self):
        world = world_of(3)
        sure_of(world, {"a": (1,)})
        told_at_last(world, finished_move(world, "a", 2))
        self.assertEqual(world.house_with("a"), 2)
        told_at_last(world, finished_move(world, "a", 1))
        self.assertEqual(world.house_with(key="a"), 1)
        # by the ledgers of houses that have no heads, too
        world.stop(0, 0)
        world.stop(2, 0)
        dealing = world.begin()
        self.assertEqual(world.take(dealing, "a", "read"), "held")
        self.assertEqual(world.seen_house(1).holds().of(dealing), {"a": "read"})
        for house in (0, 2):
            world.back(house, 0)
        reign_anew(world)
        told_at_last(world, finished_move(world, "a", 0))
        self.assertEqual(world.house_with("a"), 0)

    def test_where_a_pledged_move_brings_it(self):
        world = world_of()
        sure_of(world, {"a": (1,)})
        moved = finished_move(world, "a", 1)
        for number in list(world.letters()):
            world.deliver(number)
            world.lose(number)
        deliver_all(world)
        world.tick(3)
        world.tell(moved)
        # done at its home, pledged still where it is moved to
        self.assertEqual([world.seen_house(house).ledger().word(moved) for house in (0, 1)], ["done", "pledged"])
        self.assertEqual(world.house_with("a"), 1)
        dealing = world.begin()
        self.assertEqual(world.take(dealing, "a", "read"), "waits")
        self.assertEqual(world.waiting(), {dealing: [moved]})
        deliver_all(world)
        self.assertEqual(world.take(dealing, "a", "read"), "held")
        self.assertEqual(world.read(dealing, "a"), (1,))

    def test_at_a_house(self):
        world = world_of()
        dealing = world.begin()
        self.assertEqual(world.take_at(dealing, 1, "a", "write", coming=True), "held")
        self.assertEqual(world.take_at(dealing=dealing, house=1, key="*", mode="write"), "held")
        self.assertEqual(world.seen_house(1).holds().of(dealing), {"*": "write", "a": "write"})
        self.refused(world, NoKey, lambda: world.take(dealing, "*", "write"), key="*")

    def test_at_a_house_else_as_take(self):
        world = world_of(copies=3)
        dealing = world.begin()
        self.refused(world, NoCopy, lambda: world.take_at(dealing, 2, "A", "x"), copy=2)
        self.refused(world, NoKey, lambda: world.take_at(dealing, 0, "A", "x"), key="A")
        self.refused(world, NoHold, lambda: world.take_at(dealing, 0, "*", "x"), key="*")
        self.refused(world, Elsewhere, lambda: world.take_at(dealing, 1, "a", "read"), key="a", house=0)
        for thing in ODD:
            if not isinstance(thing, str) or thing != "*":
                self.assertRaises(NoKey, lambda: world.take_at(dealing, 0, thing, "read"))
        world.stop(0, 0)
        self.refused(world, NoHead, lambda: world.take_at(dealing, 0, "a", "read"), house=0)
        world.put_off(dealing)
        self.refused(world, Off, lambda: world.take_at(dealing, 0, "a", "read"), dealing=dealing)
        self.refused(world, Off, lambda: world.put_off(dealing), dealing=dealing)


def finished_move(world, key, to):
    dealing = move(world, key, to)
    world.finish(dealing)
    return dealing


class Reading(WorldCase):
    def test_the_newest_worth(self):
        world = world_of()
        dealing = world.begin()
        world.take(dealing, "a", "read")
        self.assertIsNone(world.read(dealing, "a"))
        world.give_up(dealing)
        sure_of(world, {"a": (1, 2), "b": (3,)})
        dealing = world.begin()
        for key, worth in (("a", (1, 2)), ("b", (3,))):
            world.take(dealing, key, "read")
            self.assertEqual(world.read(dealing=dealing, key=key), worth)

    def test_what_it_wrote_itself(self):
        world = world_of()
        sure_of(world, {"a": (1,)})
        dealing = world.begin()
        world.take(dealing, "a", "write")
        self.assertIsNone(world.write(dealing, "a", (5,)))
        self.assertEqual(world.read(dealing, "a"), (5,))
        world.write(dealing=dealing, key="a", worth=(6, 7))
        self.assertEqual(world.read(dealing, "a"), (6, 7))
        other = world.begin()
        self.assertEqual(world.seen_house(0).ledger().shelf().newest("a"), (1,))
        self.assertEqual(world.take(other, "a", "read"), "waits")

    def test_no_hold(self):
        world = world_of()
        dealing = world.begin()
        self.refused(world, NoHold, lambda: world.read(dealing, "a"), key="a")
        self.refused(world, NoHold, lambda: world.write(dealing, "a", (1,)), key="a")
        world.take(dealing, "a", "read")
        self.refused(world, NoHold, lambda: world.read(dealing, "c"), key="c")
        self.refused(world, NoHold, lambda: world.write(dealing, "a", (1,)), key="a")
        world.take(dealing, "a", "write")
        world.write(dealing, "a", (1,))

    def test_waiting_is_not_holding(self):
        world = world_of()
        elder, younger = world.begin(), world.begin()
        world.take(elder, "a", "write")
        world.take(younger, "a", "read")
        self.refused(world, NoHold, lambda: world.read(younger, "a"), key="a")

    def test_the_order_of_refusals(self):
        world = world_of()
        dealing = world.begin()
        world.give_up(dealing)
        for thing in ODD + [5]:
            for deed in (lambda: world.read(dealing, thing), lambda: world.write(dealing, thing, "x")):
                with self.assertRaises(NoKey) as caught:
                    deed()
                self.assertIs(caught.exception.key, thing)
            self.refused(world, NoWorth, lambda: world.write(dealing, "a", thing))
        self.refused(world, Off, lambda: world.read(dealing, "a"), dealing=dealing)
        self.refused(world, Off, lambda: world.write(dealing, "a", (1,)), dealing=dealing)

    def ended(self, world, younger, deed):
        self.raised(Off, deed, dealing=younger)
        self.assertEqual(world.word(younger), "off")
        for house in range(world.houses()):
            self.assertEqual(world.seen_house(house).holds().of(younger), {})

    def test_called_off_at_a_house_up_to_the_one_that_holds(self):
        for deed in (lambda world, dealing: world.read(dealing, "b"),
                     lambda world, dealing: world.write(dealing, "b", (1,)),
                     lambda world, dealing: world.read(dealing, "d"),
                     lambda world, dealing: world.read(dealing, "a")):
            world = world_of()
            elder, younger = called_off_one(world, "a")
            world.take(younger, "b", "write")
            self.ended(world, younger, lambda: deed(world, younger))

    def test_called_off_at_a_house_behind_the_one_that_holds(self):
        world = world_of()
        elder, younger = called_off_one(world, "b")
        world.take(younger, "a", "write")
        self.assertIsNone(world.read(younger, "a"))
        world.write(younger, "a", (1,))
        self.assertEqual(world.word(younger), "open")
        # where none holds it all are asked
        self.ended(world, younger, lambda: world.read(younger, "c"))

    def test_another_reign(self):
        world = world_of()
        dealing = world.begin()
        world.take(dealing, "a", "write")
        world.take(dealing, "b", "write")
        world.write(dealing, "a", (1,))
        reign_anew(world)
        self.ended(world, dealing, lambda: world.read(dealing, "a"))

    def test_no_head_first_at_each_house(self):
        world = world_of(copies=3)
        elder, younger = called_off_one(world, "a")
        world.take(younger, "b", "write")
        world.write(elder, "a", (1,))
        world.stop(0, 0)
        for dealing, key in ((younger, "b"), (younger, "a"), (elder, "a"), (elder, "c")):
            self.refused(world, NoHead, lambda: world.read(dealing, key), house=0)
            self.refused(world, NoHead, lambda: world.write(dealing, key, (1,)), house=0)
            self.assertEqual(world.word(dealing), "open")

    def test_no_head_behind_the_one_that_holds(self):
        world = world_of(copies=3)
        dealing = world.begin()
        world.take(dealing, "a", "write")
        world.take(dealing, "b", "write")
        world.stop(1, 0)
        self.assertIsNone(world.read(dealing, "a"))
        self.refused(world, NoHead, lambda: world.read(dealing, "b"), house=1)
        self.refused(world, NoHead, lambda: world.read(dealing, "c"), house=1)

    def test_off_ahead_of_no_head_at_a_later_house(self):
        world = world_of(copies=3)
        elder, younger = called_off_one(world, "a")
        world.take(younger, "b", "write")
        world.stop(1, 0)
        self.ended(world, younger, lambda: world.read(younger, "b"))


class InHouses(WorldCase):
    """Reading and putting at one house."""

    def test_what_is_refused(self):
        world = world_of(copies=3)
        dealing = world.begin()
        world.take(dealing, "a", "write")
        for thing in ODD + [2, -1]:
            self.assertRaises(NoCopy, lambda: world.read_in_house(dealing, thing, "A"))
            self.assertRaises(NoCopy, lambda: world.put_in_house(dealing, thing, "A", "x"))
        for thing in ODD:
            self.assertRaises(NoKey, lambda: world.read_in_house(dealing, 0, thing))
            self.assertRaises(NoKey, lambda: world.put_in_house(dealing, 0, thing, "x"))
            self.assertRaises(NoWorth, lambda: world.put_in_house(dealing, 0, "a", thing))
        self.refused(world, NoHold, lambda: world.read_in_house(dealing, 0, "c"), key="c")
        world.stop(0, 0)
        self.refused(world, NoHead, lambda: world.read_in_house(dealing, 0, "a"), house=0)
        world.put_off(dealing)
        self.refused(world, Off, lambda: world.read_in_house(dealing, 0, "a"), dealing=dealing)
        self.refused(world, Off, lambda: world.put_in_house(dealing, 0, "a", (1,)), dealing=dealing)

    def test_off_for_good(self):
        world = world_of()
        elder, younger = called_off_one(world)
        self.raised(Off, lambda: world.read_in_house(younger, 0, "a"), dealing=younger)
        self.assertEqual(world.word(younger), "off")


class Finishing(WorldCase):
    def test_letters_to_all_houses_where_it_held(self):
        world = world_of(3)
        reign_anew(world)
        sure_of(world, {"a": (1,)})
        elder, dealing = world.begin(), world.begin()
        world.take(elder, "b", "write")
        for key, way in (("c", "write"), ("f", "read"), ("a", "write"), ("d", "write"), ("b", "read")):
            world.take(dealing, key, way)
        world.read(dealing, "a")
        for key, worth in (("d", (2,)), ("a", (3, 4)), ("c", (5,))):
            world.write(dealing, key, worth)
        world.read(dealing, "f")
        was = list(world.letters())
        self.assertIsNone(world.finish(dealing))
        sent = [letter for number, letter in world.letters().items() if number not in was]
        self.assertEqual([(letter[0], letter[1], letter[3]) for letter in sent],
                         [("pledge", dealing, 0), ("pledge", dealing, 2)])
        self.assertEqual(sent[0][4], ((0, 2), 2, ("a",), (("a", (3, 4)), ("d", (2,))), None))
        self.assertEqual(sent[1][4], ((0, 2), 2, ("f",), (("c", (5,)),), None))
        self.assertEqual(world.word(dealing), "asked")

    def test_again(self):
        world = world_of()
        dealing = wrote(world, {"a": (1,), "b": (2,)})
        first = list(world.letters().values())
        self.assertIsNone(world.finish(dealing=dealing))
        self.assertEqual(list(world.letters().values()), first * 2)
        told_at_last(world, dealing)
        self.refused(world, Off, lambda: world.finish(dealing), dealing=dealing)

    def test_refused(self):
        world = world_of()
        dealing = world.begin()
        self.refused(world, Bare, lambda: world.finish(dealing))
        elder = world.begin()
        world.give_up(dealing)
        self.refused(world, Off, lambda: world.finish(dealing), dealing=dealing)
        younger = world.begin()
        world.take(elder, "a", "write")
        world.take(younger, "a", "write")
        self.refused(world, Bare, lambda: world.finish(younger))

    def test_one_that_was_called_off_is_off_by_its_home(self):
        world = world_of()
        elder, younger = called_off_one(world)
        world.finish(younger)
        self.assertEqual(world.word(younger), "asked")
        deliver_all(world)
        self.assertEqual(world.word(younger), "off")
        self.refused(world, Off, lambda: world.finish(younger), dealing=younger)


class Telling(WorldCase):
    def test_when_its_stamp_is_surely_past(self):
        world = world_of(drift=(1, 100))
        world.tick(3)
        dealing = wrote(world, {"a": (1,), "b": (2,)})
        self.refused(world, Waits, lambda: world.tell(dealing), time=None)
        for number in list(world.letters()):
            world.deliver(number)
        self.refused(world, Waits, lambda: world.tell(dealing), time=None)
        world.deliver(2)
        stamp = world.seen_house(0).ledger().stamp_of(dealing)
        self.assertEqual(stamp[0], world.seen_house(0).bounds()[1])
        while world.seen_house(0).bounds()[0] <= stamp[0]:
            self.refused(world, Waits, lambda: world.tell(dealing), time=stamp[0])
            world.tick()
        self.assertEqual(world.word(dealing), "asked")
        self.assertEqual(world.tell(dealing), stamp)
        self.assertEqual(world.word(dealing), "sure")
        self.assertEqual(world.letters()[3], ("done", dealing, 0, 1, stamp))

    def test_again_the_letters_are_sent_anew_and_the_history_stays(self):
        world = world_of()
        dealing = wrote(world, {"a": (1,), "b": (2,)})
        stamp = told_at_last(world, dealing)
        history = world.history()
        world.tick(5)
        self.assertEqual(world.tell(dealing=dealing), stamp)
        self.assertEqual(list(world.letters().values()), [("done", dealing, 0, 1, stamp)])
        self.assertEqual(world.history(), history)

    def test_the_order_of_refusals(self):
        world = world_of(copies=3)
        off = world.begin()
        world.give_up(off)
        opened = world.begin()
        world.take(opened, "a", "write")
        asked = wrote(world, {"c": (1,)})
        world.stop(0, 0)
        self.refused(world, Off, lambda: world.tell(off), dealing=off)
        self.refused(world, Bare, lambda: world.tell(opened))
        self.refused(world, NoHead, lambda: world.tell(asked), house=0)
        reign_anew(world, 0, 1)
        self.refused(world, Waits, lambda: world.tell(asked), time=None)

    def test_where_nothing_can_be_written(self):
        world = world_of(copies=3)
        dealing = wrote(world, {"a": (1,)})
        world.deliver(0)
        world.tick(2)
        world.stop(0, 1)
        world.stop(0, 2)
        self.refused(world, NoHead, lambda: world.tell(dealing), house=0)
        world.back(0, 1)
        self.assertEqual(world.tell(dealing), (0, 2, 0))

    def test_a_shortened_wait(self):
        world = world_of(1, drift=(1, 10), wait=(1, 2))
        world.pace(0, 0, (11, 10))
        world.tick(100)
        dealing = wrote(world, {"a": (1,)})
        world.deliver(0)
        # the stamp's time is 123, the low at its deciding 100
        world.tick(11)
        self.refused(world, Waits, lambda: world.tell(dealing), time=123)
        world.tick()
        self.assertEqual(world.tell(dealing), (123, 2, 0))


class GivingUp(WorldCase):
    def test_open(self):
        world = world_of()
        dealing = world.begin()
        world.take(dealing, "a", "write")
        world.take(dealing, "b", "read")
        self.assertIsNone(world.give_up(dealing))
        self.assertEqual((world.word(dealing), world.letters()), ("off", {}))
        for house in (0, 1):
            self.assertEqual(world.seen_house(house).holds().of(dealing), {})
        self.refused(world, Off, lambda: world.give_up(dealing=dealing), dealing=dealing)
        self.refused(world, Off, lambda: world.tell(dealing), dealing=dealing)

    def test_open_at_a_house_without_a_head(self):
        world = world_of(copies=2, drift=(1, 10), lease=100)
        dealing = world.begin()
        world.take(dealing, "a", "write")
        world.tick(90)
        self.assertIsNone(world.seen_house(0).head())
        world.give_up(dealing)
        # by a clock set anew the head is one again, in the same reign
        world.set_clock(0, 0)
        self.assertEqual((world.seen_house(0).head(), world.seen_house(0).reign()), (0, 1))
        self.assertEqual(world.seen_house(0).holds().of(dealing), {})

    def test_waits_no_more(self):
        world = world_of()
        elder, younger = world.begin(), world.begin()
        world.take(elder, "a", "write")
        world.take(younger, "a", "read")
        world.give_up(younger)
        self.assertEqual(world.waiting(), {})

    def test_asked_at_its_home(self):
        world = world_of(3)
        dealing = wrote(world, {"a": (1,), "b": (2,), "c": (3,)})
        for number in range(3):
            world.deliver(number)
        was = list(world.letters())
        self.assertIsNone(world.give_up(dealing))
        self.assertEqual(world.word(dealing), "off")
        sent = [letter for number, letter in world.letters().items() if number not in was]
        self.assertEqual(sent, [("off", dealing, 0, 1, None), ("off", dealing, 0, 2, None)])
        self.refused(world, Off, lambda: world.give_up(dealing), dealing=dealing)

    def test_the_order_of_refusals(self):
        world = world_of(copies=3)
        dealing = wrote(world, {"a": (1,), "b": (2,)})
        deliver_all(world)
        stamp = (0, 2, 0)
        self.refused(world, Sure, lambda: world.give_up(dealing), stamp=stamp)
        told_at_last(world, dealing)
        self.refused(world, Sure, lambda: world.give_up(dealing), stamp=stamp)
        world.stop(0, 0)
        self.refused(world, NoHead, lambda: world.give_up(dealing), house=0)

    def test_put_off(self):
        world = world_of()
        dealing = world.begin()
        world.take(dealing, "a", "write")
        self.assertIsNone(world.put_off(dealing=dealing))
        self.assertEqual((world.word(dealing), world.seen_house(0).holds().of(dealing)), ("off", {}))


class Waiting(WorldCase):
    def test_over_all_houses(self):
        world = world_of(3)
        some = [world.begin() for step in range(4)]
        world.take(some[0], "a", "write")
        world.take(some[1], "b", "read")
        world.take(some[2], "b", "read")
        self.assertEqual(world.take(some[3], "b", "write"), "waits")
        self.assertEqual(world.take(some[3], "a", "read"), "waits")
        self.assertEqual(world.take(some[2], "a", "read"), "waits")
        told = world.waiting()
        self.assertEqual(list(told.items()), [(some[2], [some[0]]), (some[3], [some[0], some[1], some[2]])])
        told[3].append(9)
        told.clear()
        self.assertEqual(world.waiting()[3], [0, 1, 2])

    def test_of_those_that_are_open(self):
        world = world_of()
        elder, younger = world.begin(), world.begin()
        world.take(elder, "a", "write")
        world.take(younger, "a", "read")
        world.take(younger, "b", "read")
        self.assertEqual(world.waiting(), {younger: [elder]})
        world.finish(younger)
        self.assertEqual(world.waiting(), {})
        self.assertEqual(world.seen_house(0).holds().waiting(), {younger: [elder]})

    def test_none_without_one_that_bars_it(self):
        world = world_of()
        elder, younger = world.begin(), world.begin()
        world.take(elder, "a", "write")
        world.take(younger, "a", "read")
        world.give_up(elder)
        self.assertEqual(world.waiting(), {})


class History(WorldCase):
    def test_a_dealing(self):
        world = world_of()
        sure_of(world, {"a": (1,)})
        world.tick(4)
        dealing = world.begin()
        begun = world.true_now()
        for key in ("b", "a", "d", "c"):
            world.take(dealing, key, "write")
        world.read(dealing, "b")
        world.write(dealing, "c", (9,))
        world.read(dealing, "c")
        world.read(dealing, "a")
        world.write(dealing, "b", (7, 8))
        world.read(dealing, "b")
        world.read(dealing, "a")
        world.tick(2)
        world.finish(dealing)
        deliver_all(world)
        world.tick(3)
        stamp = world.tell(dealing)
        self.assertEqual(world.history()[1:], [
            ("dealing", dealing, begun, begun + 5, stamp, [("b", None), ("a", (1,))], [("b", (7, 8)), ("c", (9,))])])

    def test_in_the_order_of_telling_and_sure_ones_alone(self):
        world = world_of()
        first = wrote(world, {"a": (1,)})
        second = wrote(world, {"b": (2,)})
        off = wrote(world, {"c": (3,)})
        for number in range(2):
            world.deliver(number)
        world.give_up(off)
        world.tick(2)
        world.tell(second)
        world.tell(first)
        self.assertEqual([row[1] for row in world.history()], [second, first])

    def test_told_lists_are_the_askers_own(self):
        world = world_of()
        sure_of(world, {"a": (1,)}, reads=("b",))
        told = world.history()
        told[0][5].append("x")
        told[0][6].clear()
        told.append(0)
        self.assertEqual(world.history(), [("dealing", 0, 0, 1, (0, 2, 0), [("b", None)], [("a", (1,))])])


if __name__ == "__main__":
    unittest.main()
