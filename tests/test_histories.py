"""Whether a history is ordered, and in which order (28, 29)."""

import random
import unittest

from stampedwait.errors import NoHistory
from stampedwait.histories import is_ordered, order_of
from tests.drawn import Drawer
from tests.things import BIG, ODD, Hostile


def dealing(number, begun, told, stamp, reads=(), writes=()):
    return ("dealing", number, begun, told, stamp, list(reads), list(writes))


FIRST = dealing(3, 0, 4, (2, 1, 0), [("a", None)], [("a", (1, 2)), ("b", (5,))])
SECOND = dealing(1, 4, 9, (6, 1, 1), [("a", (1, 2)), ("c", None)], [("a", (3,))])
THIRD = dealing(7, 2, 20, (6, 2, 0), [("a", (3,)), ("b", (5,))])
GOOD = [
    FIRST, ("read", 3, 1, "a", None), ("read", 9, 5, "a", (1, 2)), SECOND, ("form", 10, 3), ("now", 11, 8, "a", (3,)),
    ("now", 12, 10, "b", (5, 0, 0)), THIRD, ("form", 15, 1), ("read", 30, 14, "a", (3, 0, 0)), ("read", 30, 15, "a", (3,)),
    ("read", 30, -4, "zz", None), ("now", 0, -BIG, "a", None)]


def put(at, part, thing):
    """The good history with one part of one row put otherwise."""
    rows = [list(row) for row in GOOD]
    rows[at][part] = thing
    return [tuple(row) for row in rows]


class Ordered(unittest.TestCase):
    def let_by(self, *rows):
        self.assertIs(is_ordered(list(rows)), True)

    def kept_out(self, *rows):
        self.assertIs(is_ordered(list(rows)), False)
        with self.assertRaises(NoHistory):
            order_of(list(rows))

    def test_the_empty_one(self):
        self.let_by()
        self.assertEqual(order_of([]), [])

    def test_in_whatever_order(self):
        self.assertIs(is_ordered(thing=GOOD), True)
        chance = random.Random(1)
        for step in range(100):
            rows = list(GOOD)
            chance.shuffle(rows)
            self.let_by(*rows)
            self.assertEqual(order_of(rows), [3, 1, 7])

    def test_reads_and_writes_in_whatever_order(self):
        for at in (0, 3, 7):
            for part in (5, 6):
                self.let_by(*put(at, part, GOOD[at][part][::-1]))

    def test_numbers_of_any_size(self):
        self.let_by(dealing(-5, -BIG, -BIG, (-BIG, 0, 0)), dealing(BIG, -BIG, BIG, (BIG, BIG, BIG)))

    def test_numbers_unlike(self):
        self.kept_out(dealing(1, 0, 1, (5, 1, 0)), dealing(1, 0, 1, (6, 1, 0)))
        self.let_by(dealing(1, 0, 1, (5, 1, 0)), dealing(2, 0, 1, (6, 1, 0)))

    def test_stamps_unlike(self):
        self.kept_out(dealing(1, 0, 1, (5, 1, 0)), dealing(2, 0, 1, (5, 1, 0)))
        self.let_by(dealing(1, 0, 1, (5, 1, 0)), dealing(2, 0, 1, (5, 1, 1)), dealing(3, 0, 1, (5, 2, 0)))

    def test_none_told_ahead_of_its_beginning(self):
        self.let_by(dealing(1, 5, 5, (9, 1, 0)))
        self.kept_out(dealing(1, 5, 4, (9, 1, 0)))

    def test_told_no_later_than_another_begins(self):
        for told, stamp, is_right in ((9, (4, 1, 0), True), (10, (4, 1, 0), True), (11, (4, 1, 0), True),
                                      (9, (6, 1, 0), False), (10, (6, 1, 0), False), (11, (6, 1, 0), True),
                                      (10, (5, 2, 0), False), (10, (5, 0, 9), True)):
            rows = [dealing(1, 0, told, stamp), dealing(2, 10, 30, (5, 1, 0))]
            self.assertIs(is_ordered(rows), is_right)
            self.assertIs(is_ordered(rows[::-1]), is_right)

    def test_of_three_the_outer_ones(self):
        self.kept_out(dealing(1, 0, 9, (7, 1, 0)), dealing(2, 0, 30, (6, 1, 0)), dealing(3, 10, 30, (5, 1, 0)))

    def test_each_told_as_the_other_begins(self):
        self.kept_out(dealing(1, 5, 5, (6, 1, 0)), dealing(2, 5, 5, (7, 1, 0)))

    def test_keys_unlike(self):
        self.kept_out(dealing(1, 0, 1, (5, 1, 0), [("a", None), ("a", None)]))
        self.kept_out(dealing(1, 0, 1, (5, 1, 0), [], [("a", (1,)), ("a", (1,))]))
        self.let_by(dealing(1, 0, 1, (5, 1, 0), [("a", None)], [("a", (1,))]))

    def test_read_is_the_last_writing_below_its_stamp(self):
        for worth, is_right in ((None, False), ((1,), False), ((2,), True), ((3,), False), ((4,), False), ((2, 0), False)):
            rows = [dealing(1, 0, 50, (5, 1, 0), [], [("a", (1,))]), dealing(2, 0, 50, (5, 2, 0), [], [("a", (2,))]),
                    dealing(3, 0, 50, (5, 3, 0), [("a", worth)], [("a", (3,))]),
                    dealing(4, 0, 50, (5, 3, 1), [], [("a", (4,))])]
            self.assertIs(is_ordered(rows), is_right)
            self.assertIs(is_ordered(rows[::-1]), is_right)

    def test_read_of_a_key_never_written(self):
        self.let_by(dealing(1, 0, 50, (5, 1, 0), [("a", None)], [("b", (1,))]))
        self.kept_out(dealing(1, 0, 50, (5, 1, 0), [("a", (1,))], [("b", (1,))]))

    def test_dealings_read_worths_as_they_are(self):
        rows = [("form", 0, 2), dealing(1, 0, 50, (5, 1, 0), [], [("a", (1,))])]
        self.let_by(*rows, dealing(2, 0, 50, (6, 1, 0), [("a", (1,))]))
        self.kept_out(*rows, dealing(2, 0, 50, (6, 1, 0), [("a", (1, 0))]))

    def test_read_at_a_time(self):
        rows = [dealing(1, 0, 50, (5, 1, 0), [], [("a", (1,))]), dealing(2, 0, 50, (5, 2, 0), [], [("a", (2,))]),
                dealing(3, 0, 50, (9, 1, 0), [], [("a", (3,))])]
        for time, worth in ((4, None), (5, (2,)), (8, (2,)), (9, (3,)), (99, (3,))):
            for told in (None, (1,), (2,), (3,)):
                row = ("read", 0, time, "a", told)
                self.assertIs(is_ordered([row] + rows), told == worth)
                self.assertIs(is_ordered(rows[::-1] + [row]), told == worth)

    def test_read_as_the_form_then_is(self):
        rows = [dealing(1, 0, 50, (5, 1, 0), [], [("a", (1, 2))]), ("form", 20, 3), ("form", 10, 1)]
        for time, worth in ((9, (1, 2)), (10, (1,)), (19, (1,)), (20, (1, 2, 0)), (30, (1, 2, 0))):
            for told in ((1,), (1, 2), (1, 2, 0), None):
                self.assertIs(is_ordered(rows + [("read", 0, time, "a", told)]), told == worth)
            self.let_by(*rows, ("read", 0, time, "b", None))

    def test_of_like_times_of_forms_the_lists_order(self):
        rows = [dealing(1, 0, 50, (5, 1, 0), [], [("a", (1, 2))])]
        self.let_by(*rows, ("form", 7, 3), ("form", 7, 1), ("read", 0, 8, "a", (1,)))
        self.kept_out(*rows, ("form", 7, 1), ("form", 7, 3), ("read", 0, 8, "a", (1,)))
        self.let_by(("form", 7, 1), ("read", 0, 8, "a", (1, 2, 0)), *rows, ("form", 7, 3))
        self.let_by(*rows, ("form", 7, 3), ("form", 6, 1), ("read", 0, 8, "a", (1, 2, 0)))

    def test_read_now_lacks_none_told_ahead(self):
        rows = [dealing(1, 0, 7, (5, 1, 0), [], [("a", (1,))])]
        for asked, time, is_right in ((6, 4, True), (7, 4, False), (8, 4, False), (7, 5, True), (8, 6, True)):
            row = ("now", asked, time, "a", (1,) if time >= 5 else None)
            self.assertIs(is_ordered(rows + [row]), is_right)
            # of whatever key
            self.assertIs(is_ordered(rows + [("now", asked, time, "b", None)]), is_right)
            self.let_by(*rows, ("read", asked, time, "b", None))
        self.kept_out(*rows, ("now", 8, 6, "a", None))

    def test_one_thing_put_otherwise(self):
        for at, part, thing in (
                (0, 1, 1), (0, 2, 5), (0, 3, -1), (0, 4, (6, 1, 1)), (0, 4, (6, 1, 2)), (0, 4, (9, 1, 0)), (0, 5, [("a", (1,))]),
                (0, 6, [("a", (1, 2))]), (0, 6, [("a", (1, 3)), ("b", (5,))]), (3, 4, (1, 1, 1)), (3, 5, [("a", None)]),
                (3, 6, []), (1, 2, 2), (2, 2, 6), (2, 4, (3,)), (5, 4, None), (5, 2, 5), (4, 1, 20), (4, 2, 2), (6, 1, 21),
                (8, 1, 14), (8, 1, 16), (9, 3, "b")):
            rows = put(at, part, thing)
            self.assertEqual(rows != GOOD, True)
            self.assertIs(is_ordered(rows), (at, part) == (6, 1), (at, part, thing))


class Kinds(unittest.TestCase):
    """False of things of other kinds, wherever they stand."""

    def test_of_anything(self):
        for thing in ODD + [5, tuple(GOOD), {0: FIRST}, "x", FIRST]:
            if isinstance(thing, list) and not thing:
                continue
            self.assertIs(is_ordered(thing), False)
            self.assertRaises(NoHistory, lambda: order_of(thing))

    def test_of_rows(self):
        for thing in ODD + [5, list(FIRST), ("deal",) + FIRST[1:], ("dealing",), (1, 2, 3), ("form", 1), ("form", 1, 2, 3),
                            ("read", 0, 0, "a"), ("now", 0, 0, "a", None, None), FIRST[:6], FIRST + (0,),
                            ("Read", 0, 0, "a", None), (Hostile(), 1, 2)]:
            self.assertIs(is_ordered(GOOD + [thing]), False)
            self.assertIs(is_ordered([thing] + GOOD), False)

    def test_in_the_place_of_numbers(self):
        for at, row in enumerate(GOOD):
            for part in {"dealing": (1, 2, 3), "form": (1, 2), "read": (1, 2), "now": (1, 2)}[row[0]]:
                for thing in ODD:
                    self.assertIs(is_ordered(put(at, part, thing)), False)

    def test_in_the_place_of_stamps_keys_and_worths(self):
        for thing in ODD + [7, [6, 1, 1], (6, 1), (6, 1, 1, 1), (6, -1, 1), (6, 1, -1), (True, 1, 1), (6, True, 1)]:
            self.assertIs(is_ordered(put(3, 4, thing)), False)
        for thing in ODD + [7]:
            self.assertIs(is_ordered(put(1, 3, thing)), False)
            self.assertIs(is_ordered(put(5, 3, thing)), False)
            if thing is not None:
                self.assertIs(is_ordered(put(11, 4, thing)), False)

    def test_in_the_place_of_fields(self):
        for fields in (0, 5, -1, BIG):
            self.assertIs(is_ordered(put(4, 2, fields)), False)

    def test_in_the_place_of_reads_and_writes(self):
        for part in (5, 6):
            for thing in ODD + [7, (), (("d", (1,)),)]:
                if isinstance(thing, list) and not thing:
                    continue
                self.assertIs(is_ordered(put(7, part, thing)), False)
            for pair in ODD + [7, ["d", (1,)], ("d",), ("d", (1,), 1), ("D", (1,)), ("d", [1]), ("d", ()), ("d", (1,) * 5),
                               ("d", (True,)), ("d", 1), (None, (1,))]:
                self.assertIs(is_ordered(put(7, part, list(THIRD[part]) + [pair])), False)
        # a worth that was read may be None, one that was written not
        self.assertIs(is_ordered(put(7, 5, THIRD[5] + [("d", None)])), True)
        self.assertIs(is_ordered(put(7, 6, [("d", None)])), False)

    def test_truths(self):
        self.assertIs(is_ordered([dealing(True, 0, 1, (5, 1, 0))]), False)
        self.assertIs(is_ordered([dealing(1, False, 1, (5, 1, 0))]), False)
        self.assertIs(is_ordered([dealing(1, 0, True, (5, 1, 0))]), False)
        self.assertIs(is_ordered([("form", True, 1)]), False)
        self.assertIs(is_ordered([("form", 1, True)]), False)


class Order(unittest.TestCase):
    def test_by_stamps(self):
        rows = [dealing(number, 0, 99, (number % 3, number, 0)) for number in range(9)]
        wanted = [0, 3, 6, 1, 4, 7, 2, 5, 8]
        self.assertEqual(order_of(thing=rows), wanted)
        self.assertEqual(order_of(rows[::-1]), wanted)

    def test_a_new_list_each_time(self):
        rows = list(GOOD)
        told = order_of(rows)
        told.clear()
        self.assertEqual(order_of(rows), [3, 1, 7])
        self.assertEqual(rows, GOOD)


def plainly_ordered(rows):
    """What point 28 says of a list of rows of the right forms, word by word."""
    some = [row for row in rows if row[0] == "dealing"]
    writings = {}
    for row in some:
        for key, worth in row[6]:
            writings.setdefault(key, []).append((row[4], worth))
    for at, row in enumerate(some):
        if row[3] < row[2] or len(dict(row[5])) < len(row[5]) or len(dict(row[6])) < len(row[6]):
            return False
        for other in some[:at] + some[at + 1:]:
            if row[1] == other[1] or row[4] == other[4] or row[3] <= other[2] and not row[4] < other[4]:
                return False
        for key, worth in row[5]:
            below = [pair for pair in writings.get(key, []) if pair[0] < row[4]]
            if worth != (max(below)[1] if below else None):
                return False
    for row in rows:
        if row[0] in ("read", "now"):
            up_to = [pair for pair in writings.get(row[3], []) if pair[0][0] <= row[2]]
            worth = max(up_to)[1] if up_to else None
            forms = [(other[1], at, other[2]) for at, other in enumerate(rows) if other[0] == "form" and other[1] <= row[2]]
            if forms and worth is not None:
                worth = (worth + (0, 0, 0))[:max(forms)[2]]
            if row[4] != worth:
                return False
            if row[0] == "now" and [other for other in some if other[3] <= row[1] and other[4][0] > row[2]]:
                return False
    return True


class Drawn(unittest.TestCase):
    """Histories of worlds, and such with one thing put otherwise."""

    def histories(self, chance):
        for run in range(25):
            drawer = Drawer(chance)
            for step in range(150):
                drawer.step()
            yield drawer.world.history()

    def otherwise(self, chance, rows):
        rows = [list(row) for row in rows]
        row = chance.choice(rows)
        part = chance.randrange(1, len(row))
        if isinstance(row[part], int):
            row[part] += chance.choice([-3, -1, 1, 3])
        elif row[0] == "dealing" and part == 4:
            row[part] = (max(0, row[4][0] + chance.choice([-2, -1, 0, 1])), row[4][1] + chance.choice([0, 1]), row[4][2])
        elif row[0] == "dealing":
            row[part] = row[part][1:] if chance.randrange(2) else row[part] + [("a", (999,))]
        elif part == 3:
            row[part] = chance.choice("abcde")
        else:
            row[part] = chance.choice([None, (999,)])
        if row[0] == "form":
            row[2] = min(4, max(1, row[2]))
        if chance.randrange(3) == 0:
            chance.shuffle(rows)
        return [tuple(row) for row in rows]

    def test_alike_to_the_plain_words(self):
        chance = random.Random(8)
        answers = {True: 0, False: 0}
        for rows in self.histories(chance):
            self.assertIs(is_ordered(rows), True)
            self.assertEqual(order_of(rows), [row[1] for row in sorted(
                [row for row in rows if row[0] == "dealing"], key=lambda row: row[4])])
            for step in range(30 if rows else 0):
                other = self.otherwise(chance, rows)
                answers[is_ordered(other)] += 1
                self.assertIs(is_ordered(other), plainly_ordered(other), other)
        self.assertGreater(min(answers.values()), 100)


if __name__ == "__main__":
    unittest.main()
