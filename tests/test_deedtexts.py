"""Deeds as texts (32)."""

import random
import unittest

from stampedwait.deedtexts import read_deed, shown_deed
from stampedwait.errors import NoText
from tests.drawn import Drawer
from tests.things import BIG, ODD

TEXTS = [
    ("tick 5", ("tick", 5)),
    ("set 0 1 2 3", ("set", 0, 1, 2, 3)),
    ("pace 0 1 99/100", ("pace", 0, 1, (99, 100))),
    ("stop 0 1", ("stop", 0, 1)),
    ("back 0 1", ("back", 0, 1)),
    ("choose 3 4", ("choose", 3, 4)),
    ("renew 2", ("renew", 2)),
    ("catch 1 0", ("catch", 1, 0)),
    ("mark 0", ("mark", 0)),
    ("gone 1 -7", ("gone", 1, -7)),
    ("begin", ("begin",)),
    ("again 12", ("again", 12)),
    ("take 0 abc read", ("take", 0, "abc", "read")),
    ("take 0 read write", ("take", 0, "read", "write")),
    ("read 1 zzzzzz", ("read", 1, "zzzzzz")),
    ("write 1 a 5", ("write", 1, "a", (5,))),
    ("write 1 a 5,-6,0,7", ("write", 1, "a", (5, -6, 0, 7))),
    ("finish 10", ("finish", 10)),
    ("tell 10", ("tell", 10)),
    ("stay 10", ("stay", 10)),
    ("deliver 0", ("deliver", 0)),
    ("lose 100", ("lose", 100)),
    ("question 1", ("question", 1)),
    ("at 5 a", ("at", 5, ("a",))),
    ("at -5 a,bc,a", ("at", -5, ("a", "bc", "a"))),
    ("copy 2 5 a,b", ("copy", 2, 5, ("a", "b"))),
    ("now 1 a", ("now", 1, ("a",))),
    ("move abcdef 1", ("move", "abcdef", 1)),
    ("form 50 2", ("form", 50, 2)),
    ("settle", ("settle",)),
    # nothing but its form is asked of a number
    ("tick -1", ("tick", -1)),
    ("pace 9 -9 -1/0", ("pace", 9, -9, (-1, 0))),
    ("form -1 99", ("form", -1, 99)),
    (f"tick {BIG}", ("tick", BIG)),
    (f"gone -{BIG} -{BIG}", ("gone", -BIG, -BIG)),
    (f"write 0 a {BIG},-{BIG}", ("write", 0, "a", (BIG, -BIG))),
]
NO_TEXTS = [
    "", " ", "tick", "tick ", " tick 5", "tick 5 ", "tick  5", "tick 5 5", "Tick 5", "tick\t5", "tick 5\n", "\ntick 5",
    "tick 05", "tick 00", "tick -0", "tick -05", "tick +5", "tick --5", "tick -", "tick 5-", "tick 5.0", "tick 5_0", "tick 1e3",
    "tick x", "tick ,", "tick 5,6", f"tick 1{BIG}", f"tick -1{BIG}", "tick 1" + "0" * 30, "tick \u0665", "tick \u00b2",
    "fly 5", "5", "-", "begin ", " begin", "begin 0", "settle 1", "settle settle", "set 0 0 0", "set 0 0 0 0 0",
    "pace 0 0 1", "pace 0 0 1/2/3", "pace 0 0 1/", "pace 0 0 /1", "pace 0 0 /", "pace 0 0 01/1", "pace 0 0 1/-0", "pace 0 0 1 1",
    "pace 0 0 1,1", "take 0 a", "take 0 a x", "take 0 a Read", "take 0 a reads", "take 0 a ", "take 0 A read", "take 0 abcdefg read",
    "take 0 a1 read", "take 0  read", "take 0 * write", "take a a read", "read 0", "read 0 a,b", "read 0 A", "read 0 ",
    "write 0 a", "write 0 a ", "write 0 a ,", "write 0 a 1,", "write 0 a ,1", "write 0 a 1,,2", "write 0 a 1,2,3,4,5",
    "write 0 a 1, 2", "write 0 a 1;2", "write 0 a 01", "write 0 a x", "write 0 a 1/2", "at 5", "at 5 ", "at 5 ,", "at 5 a,", "at 5 ,a",
    "at 5 a,,b", "at 5 a, b", "at 5 a b", "at 5 a,B", "at 5 a,abcdefg", "at x a", "copy 0 5", "copy 0 5 ", "copy - 5 a", "now a",
    "now 0 ", "now a a", "move 0 a", "move a", "move A 0", "move a 0 0", "form 5", "form 5 1 1", "play", "give_up 0"]


class Shown(unittest.TestCase):
    def test_each_word(self):
        self.assertEqual(len({deed[0] for text, deed in TEXTS}), 27)
        for text, deed in TEXTS:
            self.assertEqual(shown_deed(deed), text)
            self.assertEqual(shown_deed(deed=deed), text)

    def test_an_empty_row_of_keys_has_no_text_that_is_read(self):
        for deed in (("at", 5, ()), ("copy", 0, 5, ()), ("now", 0, ())):
            text = shown_deed(deed)
            self.assertIsInstance(text, str)
            self.assertRaises(NoText, lambda: read_deed(text))


class Read(unittest.TestCase):
    def test_to_the_very_deed(self):
        for text, deed in TEXTS:
            told = read_deed(text)
            self.assertEqual(told, deed)
            self.assertEqual(repr(told), repr(deed))
            self.assertEqual(read_deed(text=text), deed)

    def test_no_text_of_anything_else(self):
        for text in NO_TEXTS:
            with self.assertRaises(NoText, msg=text) as caught:
                read_deed(text)
            self.assertEqual(caught.exception.row, 0)
        for thing in ODD + [5, ("tick", 5), ["tick 5"], b"tick 5"]:
            with self.assertRaises(NoText) as caught:
                read_deed(thing)
            self.assertEqual(caught.exception.row, 0)

    def test_one_sign_put_otherwise_is_another_deed_or_none(self):
        chance = random.Random(2)
        for text, deed in TEXTS:
            for step in range(60):
                at = chance.randrange(len(text) + 1)
                other = text[:at] + chance.choice(" 0a-,/1\t") + text[at + chance.randrange(2):]
                try:
                    self.assertEqual(shown_deed(read_deed(other)), other)
                except NoText:
                    pass

    def test_of_drawn_deeds(self):
        drawer = Drawer(random.Random(4))
        for step in range(300):
            deed, was_done = drawer.step()
            self.assertEqual(read_deed(shown_deed(deed)), deed)


if __name__ == "__main__":
    unittest.main()
