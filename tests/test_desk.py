"""A desk that keeps worlds by names (33)."""

import random
import unittest

from stampedwait.deedtexts import shown_deed
from stampedwait.desk import Desk
from stampedwait.errors import (
    Bare, Early, Gone, NoCopy, NoDealing, NoDeed, NoForm, NoHead, NoHold, NoLetter, NoName, NoNumber, NoPace, NoRow, Off,
    Sure, Waits)
from stampedwait.histories import is_ordered
from tests.drawn import REFUSALS, Drawer
from tests.things import ODD
from tests.worlds import seen_world

NO_ROWS = [
    "", " ", "x", "names ", " names", "names a", "Names", "new", "new a", "new a 1", "new a 1 1", "new a 1 1 1 1", "new a 1 1 x",
    "new a 01 1 1", "new a 1 +1 1", "new a 1 1 1 ", "new  a 1 1 1", "new A 1 1 1", "new abcdefg 1 1 1", "new 1 1 1 1", "new a1 1 1 1",
    "drop", "drop ", "drop A", "drop a b", "drop  a", "do", "do a", "do a ", "do a fly", "do a tick", "do a tick 05", "do A tick 5",
    "do a  tick 5", "do a tick 5 ", "do a tick  5", " do a tick 5", "do a at 5 ", "do tick 5", "time", "time A", "time a a", "time a ",
    "heads", "heads 0", "lying", "lying a 0", "ordered", "ordered a b", "names\n", "do a tick 5\n", "time\ta", "do a tick\t5",
    "play a", "settle a", "len"]


def desk_of(*rows):
    desk = Desk()
    for row in rows:
        desk.say(row)
    return desk


class Keeping(unittest.TestCase):
    def test_names(self):
        desk = Desk()
        self.assertEqual((desk.say("names"), len(desk)), ("-", 0))
        for name in ("b", "abcdef", "names", "a"):
            self.assertEqual(desk.say(f"new {name} 2 1 10"), "ok")
        self.assertEqual((desk.say(row="names"), len(desk)), ("a abcdef b names", 4))
        self.assertEqual(desk.say("drop b"), "ok")
        self.assertEqual((desk.say("names"), len(desk)), ("a abcdef names", 3))

    def test_a_world_in_the_stead_of_another_one(self):
        desk = desk_of("new a 2 1 10", "do a tick 5")
        self.assertEqual(desk.say("time a"), "5")
        self.assertEqual(desk.say("new a 3 2 10"), "ok")
        self.assertEqual((desk.say("time a"), desk.say("heads a"), len(desk)), ("0", "- - -", 1))

    def test_houses_copies_lease(self):
        desk = desk_of("new a 4 5 7")
        self.assertEqual([desk.say(f"do a choose {house} 4") for house in range(4)], ["-1"] * 4)
        self.assertEqual(desk.say("heads a"), "4 4 4 4")
        desk.say("do a tick 6")
        self.assertEqual(desk.say("heads a"), "4 4 4 4")
        desk.say("do a tick 1")
        self.assertEqual(desk.say("heads a"), "- - - -")
        with self.assertRaises(NoCopy):
            desk.say("do a choose 0 5")

    def test_two_desks_apart(self):
        first, second = Desk(), Desk()
        first.say("new a 1 1 5")
        self.assertEqual((first.say("names"), second.say("names"), len(first), len(second)), ("a", "-", 1, 0))

    def test_two_worlds_apart(self):
        desk = desk_of("new a 1 1 5", "new b 1 1 5", "do a tick 3")
        self.assertEqual((desk.say("time a"), desk.say("time b")), ("3", "0"))


class Doing(unittest.TestCase):
    def test_answers_by_their_kinds(self):
        desk = desk_of("new a 2 1 100")
        for row, answer in (
                ("choose 0 0", "-1"), ("choose 1 0", "-1"), ("tick 3", "ok"), ("begin", "0"), ("take 0 a write", "held"),
                ("read 0 a", "ok"), ("write 0 a 5,-6", "ok"), ("read 0 a", "5,-6"), ("write 0 a 7", "ok"), ("read 0 a", "7"),
                ("write 0 a 5,-6", "ok"), ("begin", "1"), ("take 1 a read", "waits"), ("finish 0", "ok"), ("deliver 0", "0"),
                ("tick 5", "ok"), ("tell 0", "4,2,0"), ("stay 1", "ok"), ("again 1", "2"), ("mark 0", "8"),
                ("at 4 b,a", "a=5,-6 b=-"), ("at 3 a", "a=-"), ("now 1 a", "a=5,-6"), ("copy 0 5 c,b,a", "a=5,-6 b=- c=-"),
                ("set 0 0 1 1", "ok"), ("pace 0 0 99/100", "ok"), ("renew 0", "ok"), ("gone 0 5", "ok"),
                ("move a 1", "3"), ("form 90 2", "4"), ("finish 3", "ok"), ("lose 1", "ok"), ("question 0", "0"),
                ("settle", "1"), ("stop 0 0", "ok"), ("back 0 0", "ok")):
            self.assertEqual(desk.say("do a " + row), answer, row)

    def test_each_deed_is_played_alone(self):
        desk = desk_of("new a 1 1 100", "do a choose 0 0", "do a begin", "do a begin", "do a take 1 a write", "do a take 0 a write")
        # refused it changes nothing, also where it would end the dealing
        for step in range(2):
            with self.assertRaises(Off) as caught:
                desk.say("do a take 1 b read")
            self.assertEqual(caught.exception.dealing, 1)
        self.assertEqual(desk.say("do a finish 1"), "ok")

    def test_as_a_world_does(self):
        for seed in range(12):
            drawer = Drawer(random.Random(seed), drift=(1, 100))
            desk = desk_of(f"new w {drawer.many} {drawer.copies} 1000")
            drawer.world = desk.world_named("w")
            for house in range(drawer.many):
                desk.say(f"do w choose {house} 0")
            done = [self.alike(desk, drawer.world, drawer.draw()) for step in range(120)]
            self.assertGreater(done.count(True), 20)
            self.assertEqual(desk.say("time w"), str(drawer.world.true_now()))
            self.assertEqual(desk.say("lying w"), " ".join(str(number) for number in drawer.world.letters()) or "-")
            self.assertEqual(desk.say("ordered w"), "yes")

    def alike(self, desk, world, deed):
        """Whether it was done; a twin of the world answers the same, or refuses it with the same."""
        twin = world.twin()
        try:
            answer = twin.play([deed])[0]
        except REFUSALS as refusal:
            with self.assertRaises(type(refusal)):
                desk.say("do w " + shown_deed(deed))
            self.assertEqual(seen_world(world), seen_world(twin))
            return False
        self.assertEqual(desk.say("do w " + shown_deed(deed)), text_of(answer))
        self.assertEqual(seen_world(world), seen_world(twin))
        return True


def text_of(answer):
    if isinstance(answer, dict):
        return " ".join(f"{key}={'-' if worth is None else text_of(worth)}" for key, worth in sorted(answer.items()))
    if isinstance(answer, tuple):
        return ",".join(str(number) for number in answer)
    return "ok" if answer is None else str(answer)


class Showing(unittest.TestCase):
    def test_heads(self):
        desk = desk_of("new a 3 3 100", "do a choose 1 2")
        self.assertEqual(desk.say("heads a"), "- 2 -")
        desk.say("do a choose 0 0")
        desk.say("do a stop 1 2")
        self.assertEqual(desk.say("heads a"), "0 - -")

    def test_lying(self):
        desk = desk_of("new a 2 1 100", "do a choose 0 0", "do a choose 1 0")
        self.assertEqual(desk.say("lying a"), "-")
        for row in ("begin", "take 0 a write", "take 0 b write", "finish 0", "finish 0"):
            desk.say("do a " + row)
        self.assertEqual(desk.say("lying a"), "0 1 2 3")
        desk.say("do a lose 1")
        self.assertEqual(desk.say("lying a"), "0 2 3")
        for step in range(8):
            desk.say("do a finish 0")
        self.assertEqual(desk.say("lying a"), " ".join(str(number) for number in range(20) if number != 1))

    def test_ordered(self):
        desk = desk_of("new a 1 1 100")
        self.assertEqual(desk.say("ordered a"), "yes")
        world = desk.world_named("a")
        self.assertIs(is_ordered(world.history()), True)
        # no deed breaks the order: such a history is written by hand
        world.keep_read("read", 0, "a", (1,))
        self.assertEqual(desk.say("ordered a"), "no")


class Refusing(unittest.TestCase):
    def refused(self, desk, row, kind, **fields):
        was = (desk.say("names"), desk.say("time a"), desk.say("lying a"), desk.say("heads a"), len(desk))
        with self.assertRaises(kind, msg=repr(row)) as caught:
            desk.say(row)
        self.assertIs(type(caught.exception), kind)
        self.assertEqual({name: getattr(caught.exception, name) for name in fields}, fields)
        self.assertEqual(was, (desk.say("names"), desk.say("time a"), desk.say("lying a"), desk.say("heads a"), len(desk)))

    def test_no_row(self):
        desk = desk_of("new a 2 1 100")
        for row in NO_ROWS:
            self.refused(desk, row, NoRow)
        for thing in ODD + [5, b"names", ["names"]]:
            with self.assertRaises(NoRow):
                desk.say(thing)

    def test_no_row_ahead_of_no_name(self):
        desk = desk_of("new a 2 1 100")
        for row in ("do b fly", "do b tick 05", "do b tick", "drop b b", "time b b", "do b at 5 ", "new b 1 1"):
            self.refused(desk, row, NoRow)

    def test_no_name(self):
        desk = desk_of("new a 2 1 100")
        for row in ("drop b", "do b tick 0", "do b begin", "time b", "heads b", "lying b", "ordered b"):
            self.refused(desk, row, NoName, name="b")
        desk.say("drop a")
        for row in ("drop a", "time a"):
            with self.assertRaises(NoName):
                desk.say(row)

    def test_not_of_new(self):
        desk = desk_of("new a 2 1 100")
        for row in ("new b 5 1 1", "new b 0 1 1", "new b 1 6 1", "new b 1 0 1", "new b 1 1 0", "new b 1 1 1001", "new b -1 1 1",
                    "new a 5 1 1"):
            self.refused(desk, row, NoNumber)

    def test_then_what_the_points_refuse(self):
        desk = desk_of("new a 2 1 100", "do a choose 0 0", "do a begin", "do a take 0 a write", "do a write 0 a 1", "do a finish 0",
                       "do a deliver 0", "do a tick 5", "do a tell 0", "do a begin", "do a begin", "do a take 1 a write",
                       "do a begin", "do a stay 3")
        for deed, kind, fields in (
                ("tick 0", NoNumber, {}), ("tick 10001", NoNumber, {}), ("set 0 0 -1 0", NoNumber, {}), ("pace 0 0 1/0", NoPace, {}),
                ("stop 2 0", NoCopy, {"copy": 2}), ("stop 0 1", NoCopy, {"copy": 1}), ("choose 0 0", NoHead, {"house": 0}),
                ("renew 1", NoHead, {"house": 1}), ("again 0", NoDealing, {"dealing": 0}), ("take 9 a read", NoDealing, {"dealing": 9}),
                ("take 0 a read", Off, {"dealing": 0}), ("read 2 a", NoHold, {"key": "a"}), ("finish 2", Bare, {}),
                ("tell 2", Bare, {}), ("stay 0", Sure, {"stamp": (1, 2, 0)}), ("deliver 9", NoLetter, {}), ("lose 9", NoLetter, {}),
                ("at 9 a", Early, {"time": 9}), ("at 5 b", NoHead, {"house": 1}), ("form 5 5", NoForm, {}), ("form 5 2", NoHead, {"house": 1}),
                ("move a 0", NoDeed, {}), ("copy 1 0 a", NoCopy, {"copy": 1}), ("again 1", NoDealing, {"dealing": 1})):
            self.refused(desk, "do a " + deed, kind, **fields)
        desk.say("do a gone 0 3")
        self.refused(desk, "do a at 2 a", Gone, time=3)
        desk.say("do a finish 1")
        self.refused(desk, "do a tell 1", Waits, time=None)


if __name__ == "__main__":
    unittest.main()
