"""Letters that lie (21), and rows of deeds that are played (22)."""

import unittest

from stampedwait.errors import (
    Bare, Early, NoCopy, NoDealing, NoDeed, NoForm, NoHead, NoHold, NoKey, NoLetter, NoNumber, NoPace, NoWorth, Off,
    Sure, Waits)
from stampedwait.moving import form_ahead
from tests.things import BIG, ODD
from tests.worlds import WorldCase, deliver_all, seen_world, sure_of, world_of, wrote

NO_DEEDS = ODD + [
    0, "tick", ("tick",), ("tick", 1, 2), ["tick", 1], ("fly", 1), ("Tick", 1), (b"tick", 1), (1, "tick"),
    (("tick",), 1), ("begin", None), ("begin", 0), ("settle", 1), ("set", 0, 0, 0), ("at", 0), ("move", "a"),
    ("form", 5), ("copy", 0, ("a",)), ("play", []), ("take", 0, "a"), ("at", 0, "a"), ("at", 0, ["a"]),
    ("now", 0, None), ("now", 0, {"a": 1}), ("copy", 0, 0, 5), ("give_up", 0), ("set_clock", 0, 0, 0, 0)]


class Letters(WorldCase):
    def test_numbered_from_nought(self):
        world = world_of()
        wrote(world, {"a": (1,), "b": (2,)})
        wrote(world, {"c": (3,)})
        self.assertEqual(list(world.letters()), [0, 1, 2])
        self.assertEqual([letter[:2] for letter in world.letters().values()], [("pledge", 0)] * 2 + [("pledge", 1)])

    def test_delivered_in_whatever_order_and_again(self):
        world = world_of()
        dealing = wrote(world, {"a": (1,), "b": (2,)})
        self.assertEqual(world.deliver(number=1), 1)
        self.assertEqual(world.letters()[2], ("yes", dealing, 1, 0, (0, 1, 1)))
        self.assertEqual(world.deliver(2), 0)
        self.assertEqual(world.deliver(1), 1)
        self.assertEqual(world.letters()[3], world.letters()[2])
        self.assertEqual(world.deliver(0), 0)
        self.assertEqual(world.seen_house(0).ledger().word(dealing), "sure")
        for number in (0, 1, 2, 3):
            self.unchanged_houses(world, number)
        self.assertEqual(list(world.letters()), [0, 1, 2, 3, 4])

    def unchanged_houses(self, world, number):
        was = seen_world(world)[-1]
        world.deliver(number)
        self.assertEqual(seen_world(world)[-1], was)

    def test_lost(self):
        world = world_of()
        wrote(world, {"a": (1,), "b": (2,)})
        self.assertIsNone(world.lose(0))
        self.assertEqual(list(world.letters()), [1])
        self.refused(world, NoLetter, lambda: world.deliver(0))
        self.refused(world, NoLetter, lambda: world.lose(number=0))
        world.deliver(1)
        # numbers are never given twice
        self.assertEqual(list(world.letters()), [1, 2])

    def test_no_letter_of_anything_else(self):
        world = world_of()
        wrote(world, {"a": (1,)})
        for thing in ODD + [1, -1, BIG]:
            self.refused(world, NoLetter, lambda: world.deliver(thing))
            self.refused(world, NoLetter, lambda: world.lose(thing))

    def test_how_many_answers(self):
        world = world_of(4)
        dealing = wrote(world, {"a": (1,), "b": (2,), "c": (3,), "d": (4,)})
        world.deliver(0)
        world.stop(3, 0)
        world.back(3, 0)
        world.tick(1001)
        for house in range(4):
            world.choose(house, 0)
        # the holds are gone with the reign: no, and off to all others
        self.assertEqual(world.deliver(3), 1)
        self.assertEqual(world.deliver(4), 3)
        self.assertEqual([letter[0] for letter in world.letters().values()], ["pledge"] * 4 + ["no"] + ["off"] * 3)
        self.assertEqual(world.word(dealing), "off")

    def test_what_a_house_refuses_leaves_it_lying(self):
        world = world_of(copies=3)
        dealing = wrote(world, {"a": (1,)})
        world.stop(0, 0)
        self.refused(world, NoHead, lambda: world.deliver(0), house=0)
        self.assertEqual(list(world.letters()), [0])
        other = world_of()
        form = form_ahead(other, 5, 2)
        other.finish(form)
        for number in (0, 1):
            other.deliver(number)
        other.tick(6)
        late = wrote(other, {"a": (1,)})
        number = max(other.letters())
        self.refused(other, Waits, lambda: other.deliver(number), time=5)
        self.assertIn(number, other.letters())
        self.assertEqual((world.word(dealing), other.word(late)), ("asked", "asked"))

    def test_told_letters_are_the_askers_own(self):
        world = world_of()
        wrote(world, {"a": (1,)})
        told = world.letters()
        told.clear()
        self.assertEqual(list(world.letters()), [0])

    def test_questions(self):
        world = world_of()
        dealing = wrote(world, {"a": (1,), "b": (2,)})
        world.deliver(1)
        self.assertEqual(world.question(0), 0)
        self.assertEqual(world.question(house=1), 1)
        self.assertEqual(world.letters()[3], ("what", dealing, 1, 0, None))
        self.assertEqual(world.deliver(3), 1)
        self.assertEqual(world.letters()[4], ("off", dealing, 0, 1, None))
        self.assertEqual(world.deliver(4), 0)
        self.assertEqual(world.question(1), 0)
        world.stop(1, 0)
        self.refused(world, NoHead, lambda: world.question(1), house=1)


class LettingGo(WorldCase):
    def test_marks(self):
        world = world_of()
        world.tick(7)
        self.assertEqual(world.mark(0), 7)
        self.assertEqual((world.seen_house(0).ledger().last_mark(), world.seen_house(0).floor()), (7, 7))
        self.assertEqual(self.unchanged(world, lambda: world.mark(0)), 7)
        wrote(world, {"a": (1,)})
        world.deliver(0)
        world.tick(5)
        self.assertEqual(self.unchanged(world, lambda: world.mark(0)), 7)
        self.assertEqual(world.mark(1), 12)

    def test_let_go(self):
        world = world_of()
        sure_of(world, {"a": (1,)})
        sure_of(world, {"a": (2,)})
        world.tick(3)
        self.refused(world, NoNumber, lambda: world.let_go(0, "x"))
        self.refused(world, Early, lambda: world.let_go(0, world.true_now() + 1), time=world.true_now() + 1)
        self.assertIsNone(world.let_go(house=0, time=3))
        self.assertEqual(world.seen_house(0).ledger().shelf().versions("a"), [((1, 4, 0), (2,))])
        self.assertEqual(world.seen_house(0).floor(), 3)
        world.stop(0, 0)
        self.refused(world, NoHead, lambda: world.let_go(0, 3), house=0)
        self.refused(world, NoHead, lambda: world.mark(0), house=0)


class Playing(WorldCase):
    def test_each_deed(self):
        world = world_of(2, copies=2, heads=False)
        row = [
            (("choose", 0, 0), -1), (("choose", 1, 1), -1), (("tick", 3), None), (("set", 0, 1, 1, 2), None),
            (("pace", 0, 0, (2, 2)), None), (("begin",), 0), (("take", 0, "a", "write"), "held"),
            (("write", 0, "a", (1, 2)), None), (("read", 0, "a"), (1, 2)), (("take", 0, "b", "read"), "held"),
            (("read", 0, "b"), None), (("finish", 0), None), (("deliver", 0), 0), (("deliver", 1), 1),
            (("deliver", 2), 0), (("lose", 2), None), (("question", 1), 1), (("tick", 2), None), (("tell", 0), (3, 2, 0)),
            (("deliver", 4), 0), (("mark", 0), 5), (("mark", 1), 5), (("gone", 0, 3), None), (("renew", 0), None),
            (("at", 4, ("a", "b")), {"a": (1, 2), "b": None}), (("copy", 1, 4, ("a",)), {"a": (1, 2)}),
            (("now", 0, ("b",)), {"b": None}), (("begin",), 1), (("stay", 1), None), (("again", 1), 2),
            (("stop", 1, 0), None), (("back", 1, 0), None), (("catch", 1, 0), None), (("move", "c", 1), 3),
            (("form", 20, 1), 4), (("settle",), 1)]
        self.assertEqual(world.play(deeds=[deed for deed, answer in row]), [answer for deed, answer in row])
        self.assertEqual([world.word(dealing) for dealing in range(5)], ["sure", "off", "off", "off", "off"])
        self.assertEqual(world.book(), ["open", "shut"])

    def test_a_row_is_as_the_deeds_one_by_one(self):
        first, second = world_of(), world_of()
        deeds = [("begin",), ("take", 0, "a", "write"), ("write", 0, "a", (1,)), ("finish", 0), ("deliver", 0),
                 ("tick", 1), ("tell", 0), ("at", 1, ("a",))]
        answers = first.play(deeds)
        self.assertEqual([second.play([deed])[0] for deed in deeds], answers)
        self.assertEqual(seen_world(first), seen_world(second))
        self.assertEqual(second.book(), ["open", "shut"] * len(deeds))

    def test_none_where_one_is_refused(self):
        world = world_of()
        sure_of(world, {"a": (1,)})
        dealing = wrote(world, {"a": (2,)})
        good = [("tick", 5), ("set", 0, 0, 1, 1), ("begin",), ("take", 2, "b", "write"), ("write", 2, "b", (1,)),
                ("finish", 2), ("deliver", max(world.letters())), ("mark", 1), ("at", 3, ("d",)), ("settle",)]
        for deed, kind, fields in (
                (("tick", 0), NoNumber, {}), (("tick", "x"), NoNumber, {}), (("set", 0, 0, -1, 0), NoNumber, {}),
                (("pace", 0, 0, (1, 0)), NoPace, {}), (("stop", 2, 0), NoCopy, {"copy": 2}),
                (("back", 0, 1), NoCopy, {"copy": 1}), (("choose", 0, 0), NoHead, {"house": 0}),
                (("again", 0), NoDealing, {"dealing": 0}), (("take", 2, "A", "read"), NoKey, {"key": "A"}),
                (("take", 0, "a", "x"), NoHold, {"key": "a"}), (("write", 0, "a", ()), NoWorth, {}),
                (("finish", 0), Off, {"dealing": 0}), (("stay", 0), Sure, {"stamp": (0, 2, 0)}),
                (("lose", 99), NoLetter, {}), (("form", 5, 5), NoForm, {}),
                (("copy", 1, 0, ("a",)), NoCopy, {"copy": 1}), (("copy", None, 0, ("a",)), NoCopy, {"copy": None})):
            self.refused(world, kind, lambda: world.play(good + [deed, ("tick", 1), ("fly",)]), **fields)
        self.refused(world, Bare, lambda: world.play([("begin",), ("finish", 2)]))
        self.assertEqual(world.word(dealing), "asked")

    def test_also_where_a_refusal_changes_a_world(self):
        world = world_of()
        elder, younger = world.begin(), world.begin()
        world.take(younger, "a", "write")
        world.take(elder, "a", "write")
        self.refused(world, Off, lambda: world.play([("take", younger, "c", "read")]), dealing=younger)
        self.refused(world, Off, lambda: world.play([("move", "a", 1)]), dealing=2)
        self.assertEqual((world.word(younger), len(world)), ("open", 2))

    def test_no_deed_of_anything_else(self):
        world = world_of()
        for thing in NO_DEEDS:
            self.refused(world, NoDeed, lambda: world.play([thing]))
            self.refused(world, NoDeed, lambda: world.play([("tick", 1), thing, ("tick", 0)]))
        # the first one's refusal is told
        self.refused(world, NoNumber, lambda: world.play([("tick", 0), 5]))

    def test_no_deed_of_what_is_no_list(self):
        world = world_of()
        many = 0
        for thing in ODD + [("tick", 1), (("tick", 1),), 5]:
            if not isinstance(thing, list):
                self.refused(world, NoDeed, lambda: world.play(thing))
                many += 1
                self.assertEqual(world.book(), ["open", "shut"] * many)

    def test_a_copy_that_is_none_behind_all_else(self):
        world = world_of()
        for copy in (None, 1, "x"):
            self.refused(world, NoNumber, lambda: world.play([("copy", copy, "x", ("A",))]))
            self.refused(world, NoKey, lambda: world.play([("copy", copy, 0, ("A",))]), key="A")
            self.refused(world, NoCopy, lambda: world.play([("copy", copy, 0, ("a",))]), copy=copy)
            self.assertEqual(world.play([("copy", copy, 0, ())]), [{}])

    def test_the_book(self):
        world = world_of()
        self.assertEqual(world.book(), [])
        self.assertEqual(world.play([]), [])
        self.assertEqual(world.book(), ["open", "shut"])
        self.raised(NoNumber, lambda: world.play([("tick", 1), ("tick", 0)]))
        self.raised(NoDeed, lambda: world.play(None))
        world.play([("tick", 1)])
        told = world.book()
        self.assertEqual(told, ["open", "shut"] * 4)
        told.clear()
        self.assertEqual(world.book(), ["open", "shut"] * 4)

    def test_what_is_handed_in_is_neither_changed_nor_kept(self):
        world = world_of()
        deeds = [("begin",), ("take", 0, "a", "write")]
        answers = world.play(deeds)
        self.assertEqual(deeds, [("begin",), ("take", 0, "a", "write")])
        deeds.clear()
        answers.append(5)
        self.assertEqual(world.play([("read", 0, "a")]), [None])


class Twins(WorldCase):
    def test_go_on_by_themselves(self):
        world = world_of(2, copies=2, drift=(1, 2))
        world.pace(0, 0, (2, 3))
        world.tick()
        sure_of(world, {"a": (1,)})
        wrote(world, {"b": (2,), "c": (3,)})
        world.play([])
        twin = world.twin()
        self.assertEqual(twin.book(), [])
        self.assertEqual(seen_world(twin), seen_world(world))
        was = seen_world(world)
        dealing = twin.begin()
        twin.take(dealing, "d", "write")
        twin.write(dealing, "d", (4,))
        twin.finish(dealing)
        deliver_all(twin)
        twin.set_clock(0, 0)
        twin.pace(0, 1, (1, 1))
        twin.tick(7)
        twin.mark(0)
        twin.play([("at", 1, ("a",))])
        self.assertEqual(seen_world(world), was)
        self.assertEqual(world.book(), ["open", "shut"])
        was = seen_world(twin)
        world.tick(3)
        deliver_all(world)
        world.stop(0, 1)
        self.assertEqual(seen_world(twin), was)

    def test_count_parts_of_ticks_alike(self):
        world = world_of(1, drift=(1, 2))
        world.pace(0, 0, (2, 3))
        world.tick()
        twin = world.twin()
        for each in (world, twin):
            each.tick()
        self.assertEqual(seen_world(twin), seen_world(world))
        self.refused(twin, NoPace, lambda: twin.pace(0, 0, (1, 3)))

    def test_of_open_dealings(self):
        world = world_of()
        dealing = world.begin()
        world.take(dealing, "a", "write")
        world.read(dealing, "a")
        twin = world.twin()
        twin.write(dealing, "a", (1,))
        twin.take(dealing, "b", "read")
        self.assertIsNone(world.read(dealing, "a"))
        world.finish(dealing)
        self.assertEqual(list(world.letters().values()), [("pledge", 0, 0, 0, ((0,), 1, ("a",), (), None))])


if __name__ == "__main__":
    unittest.main()
