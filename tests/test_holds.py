import random
import unittest

from stampedwait.errors import Off
from stampedwait.holds import Holds


class Asking(unittest.TestCase):
    def setUp(self):
        self.holds = Holds()

    def ask(self, dealing, key, mode, word, off=(), age=None):
        told = self.holds.ask(dealing, key, mode, age=age)
        self.assertEqual(told, (word, list(off)))
        self.assertIsInstance(told, tuple)

    def test_a_free_key(self):
        self.ask(3, "a", "read", "held")
        self.ask(3, "b", "write", "held")
        self.assertEqual(self.holds.of(3), {"a": "read", "b": "write"})

    def test_held_so_already(self):
        for mode in ("read", "write"):
            self.ask(3, mode[0], mode, "held")
            self.ask(3, mode[0], mode, "held")
        self.assertEqual(self.holds.of(3), {"r": "read", "w": "write"})

    def test_read_of_what_is_held_for_writing_stays_write(self):
        self.ask(3, "a", "write", "held")
        self.ask(3, "a", "read", "held")
        self.assertEqual(self.holds.of(3), {"a": "write"})

    def test_write_in_the_stead_of_read(self):
        self.ask(3, "a", "read", "held")
        self.ask(3, "a", "write", "held")
        self.assertEqual(self.holds.of(3), {"a": "write"})

    def test_readers_do_not_bar_one_another(self):
        for dealing in (5, 1, 3):
            self.ask(dealing, "a", "read", "held")
        self.assertEqual([self.holds.of(d) for d in (1, 3, 5)], [{"a": "read"}] * 3)
        self.assertEqual(self.holds.called_off(), [])

    def test_other_keys_do_not_bar(self):
        self.ask(5, "a", "write", "held")
        self.ask(1, "b", "write", "held")
        self.assertEqual(self.holds.of(5), {"a": "write"})

    def test_an_elder_writer_is_waited_for_by_both_ways(self):
        self.ask(1, "a", "write", "held")
        self.ask(2, "a", "read", "waits")
        self.ask(3, "a", "write", "waits")
        self.assertEqual(self.holds.waiting(), {2: [1], 3: [1]})
        self.assertEqual(self.holds.of(2), {})

    def test_an_elder_reader_is_waited_for_by_a_writer(self):
        self.ask(1, "a", "read", "held")
        self.ask(2, "a", "write", "waits")
        self.assertEqual(self.holds.waiting(), {2: [1]})

    def test_a_younger_writer_is_called_off_by_both_ways(self):
        for mode in ("read", "write"):
            self.holds = Holds()
            self.ask(2, "a", "write", "held")
            self.ask(1, "a", mode, "held", [2])
            self.assertEqual(self.holds.of(1), {"a": mode})
            self.assertEqual(self.holds.of(2), {})
            self.assertEqual(self.holds.called_off(), [2])

    def test_younger_readers_are_called_off_by_a_writer_sorted(self):
        for dealing in (9, 4, 7, 1, 12):
            self.ask(dealing, "a", "read", "held")
        self.ask(3, "a", "write", "waits", [4, 7, 9, 12])
        self.assertEqual(self.holds.waiting(), {3: [1]})
        self.assertEqual(self.holds.called_off(), [4, 7, 9, 12])

    def test_who_is_called_off_loses_all_holds_and_waits_no_more(self):
        self.ask(0, "c", "write", "held")
        self.ask(5, "a", "write", "held")
        self.ask(5, "b", "read", "held")
        self.ask(5, "c", "write", "waits")
        self.assertEqual(self.holds.waiting(), {5: [0]})
        self.ask(1, "a", "read", "held", [5])
        self.assertEqual(self.holds.of(5), {})
        self.assertEqual(self.holds.waiting(), {})
        self.ask(9, "b", "write", "held")

    def test_a_younger_one_that_holds_the_key_for_reading_lets_a_reader_by(self):
        self.ask(2, "a", "read", "held")
        self.ask(1, "a", "read", "held")
        self.assertEqual(self.holds.called_off(), [])

    def test_who_waits_keeps_what_it_has(self):
        self.ask(1, "a", "read", "held")
        self.ask(2, "a", "read", "held")
        self.ask(2, "b", "write", "held")
        self.ask(2, "a", "write", "waits")
        self.assertEqual(self.holds.of(2), {"a": "read", "b": "write"})

    def test_write_in_the_stead_of_read_calls_younger_readers_off(self):
        self.ask(1, "a", "read", "held")
        self.ask(2, "a", "read", "held")
        self.ask(1, "a", "write", "held", [2])
        self.assertEqual(self.holds.of(1), {"a": "write"})

    def test_by_names(self):
        self.assertEqual(self.holds.ask(dealing=4, key="a", mode="write", age=2), ("held", []))
        self.holds.pledge(dealing=4)
        self.holds.keep(dealing=5, some={"b": "read"})
        self.assertEqual(self.holds.of(dealing=5), {"b": "read"})
        self.holds.free(dealing=4, forget=True)
        self.assertEqual(self.holds.pledged(), [5])

    def test_age_by_its_name_alone(self):
        with self.assertRaises(TypeError):
            self.holds.ask(1, "a", "read", 5)
        with self.assertRaises(TypeError):
            self.holds.free(1, True)


class Ages(unittest.TestCase):
    def setUp(self):
        self.holds = Holds()

    def test_left_out_or_none_it_is_the_number(self):
        self.holds.ask(5, "a", "write", age=None)
        self.assertEqual(self.holds.ask(4, "a", "write"), ("held", [5]))
        self.assertEqual(self.holds.ask(6, "a", "write"), ("waits", []))

    def test_told_at_the_first_asking(self):
        self.holds.ask(5, "a", "write", age=0)
        self.assertEqual(self.holds.ask(4, "a", "write"), ("waits", []))
        self.assertEqual(self.holds.ask(9, "a", "write", age=-1), ("held", [5]))

    def test_a_lesser_number_may_be_younger(self):
        self.holds.ask(1, "a", "write", age=100)
        self.assertEqual(self.holds.ask(5, "a", "write"), ("held", [1]))

    def test_told_later_it_is_as_at_first(self):
        self.holds.ask(5, "a", "write")
        self.holds.ask(5, "b", "write", age=0)
        self.assertEqual(self.holds.ask(4, "a", "write"), ("held", [5]))
        self.holds.ask(8, "c", "write", age=2)
        self.holds.ask(8, "d", "write", age=50)
        self.holds.ask(8, "e", "write")
        self.assertEqual(self.holds.ask(3, "c", "write"), ("waits", []))

    def test_told_at_an_asking_that_waits(self):
        self.holds.ask(0, "a", "write")
        self.assertEqual(self.holds.ask(9, "a", "write", age=1), ("waits", []))
        self.holds.ask(9, "b", "write", age=99)
        self.assertEqual(self.holds.ask(2, "b", "write"), ("waits", []))

    def test_of_like_ages_the_lesser_number_is_elder(self):
        self.holds.ask(5, "a", "write", age=7)
        self.assertEqual(self.holds.ask(6, "a", "write", age=7), ("waits", []))
        self.assertEqual(self.holds.ask(4, "a", "write", age=7), ("held", [5]))

    def test_stands_till_freed(self):
        self.holds.ask(5, "a", "write", age=0)
        self.holds.free(5)
        self.holds.ask(5, "a", "write")
        self.assertEqual(self.holds.ask(4, "a", "write"), ("held", [5]))


class CalledOff(unittest.TestCase):
    def setUp(self):
        self.holds = Holds()
        self.holds.ask(7, "a", "write")
        self.holds.ask(3, "a", "write")

    def refused(self, dealing, key="x", mode="read"):
        with self.assertRaises(Off) as caught:
            self.holds.ask(dealing, key, mode)
        self.assertEqual(caught.exception.dealing, dealing)

    def test_asks_in_vain(self):
        self.refused(7)
        self.refused(7, "a", "write")
        self.assertEqual(self.holds.of(7), {})
        self.assertEqual(self.holds.waiting(), {})

    def test_freed_it_stays_called_off(self):
        self.assertIsNone(self.holds.free(7))
        self.assertEqual(self.holds.called_off(), [7])
        self.refused(7)

    def test_freed_and_forgotten_it_never_was(self):
        self.assertIsNone(self.holds.free(7, forget=True))
        self.assertEqual(self.holds.called_off(), [])
        self.assertEqual(self.holds.ask(7, "b", "write"), ("held", []))

    def test_sorted(self):
        for dealing in (12, 9, 20, 5):
            self.holds.ask(dealing, "b", "read")
        self.holds.ask(4, "b", "write")
        self.assertEqual(self.holds.called_off(), [5, 7, 9, 12, 20])


class Pledged(unittest.TestCase):
    def setUp(self):
        self.holds = Holds()

    def test_asks_no_more(self):
        self.holds.ask(7, "a", "write")
        self.assertIsNone(self.holds.pledge(7))
        for key, mode in (("a", "read"), ("a", "write"), ("b", "read")):
            with self.assertRaises(Off) as caught:
                self.holds.ask(7, key, mode)
            self.assertEqual(caught.exception.dealing, 7)
        self.assertEqual(self.holds.of(7), {"a": "write"})

    def test_is_waited_for_by_elder_ones(self):
        self.holds.ask(7, "a", "read")
        self.holds.ask(8, "a", "read")
        self.holds.pledge(7)
        self.assertEqual(self.holds.ask(3, "a", "write"), ("waits", [8]))
        self.assertEqual(self.holds.waiting(), {3: [7]})
        self.assertEqual(self.holds.of(7), {"a": "read"})

    def test_that_holds_nothing(self):
        self.holds.pledge(4)
        self.assertEqual(self.holds.pledged(), [4])
        self.assertEqual(self.holds.of(4), {})
        with self.assertRaises(Off):
            self.holds.ask(4, "a", "read")

    def test_waits_for_none(self):
        self.holds.ask(1, "a", "write")
        self.holds.ask(2, "a", "write")
        self.holds.pledge(2)
        self.assertEqual(self.holds.waiting(), {})

    def test_sorted(self):
        for dealing in (9, 2, 11, 5):
            self.holds.pledge(dealing)
        self.assertEqual(self.holds.pledged(), [2, 5, 9, 11])

    def test_freed(self):
        self.holds.ask(7, "a", "write")
        self.holds.pledge(7)
        self.assertIsNone(self.holds.free(7))
        self.assertEqual((self.holds.pledged(), self.holds.of(7)), ([], {}))
        self.assertEqual(self.holds.ask(7, "b", "read"), ("held", []))
        self.assertEqual(self.holds.ask(9, "a", "write"), ("held", []))


class Keeping(unittest.TestCase):
    def setUp(self):
        self.holds = Holds()

    def test_holds_and_is_pledged(self):
        self.assertIsNone(self.holds.keep(6, {"b": "write", "a": "read"}))
        self.assertEqual(list(self.holds.of(6).items()), [("a", "read"), ("b", "write")])
        self.assertEqual(self.holds.pledged(), [6])
        with self.assertRaises(Off):
            self.holds.ask(6, "c", "read")
        self.assertEqual(self.holds.ask(1, "a", "read"), ("held", []))
        self.assertEqual(self.holds.ask(1, "b", "read"), ("waits", []))
        self.assertEqual(self.holds.waiting(), {1: [6]})

    def test_beside_what_it_holds(self):
        self.holds.ask(6, "a", "read")
        self.holds.ask(6, "c", "write")
        self.holds.keep(6, {"a": "write", "b": "read"})
        self.assertEqual(self.holds.of(6), {"a": "write", "b": "read", "c": "write"})
        self.holds.keep(6, {"c": "read"})
        self.assertEqual(self.holds.of(6)["c"], "write")

    def test_waits_no_more(self):
        self.holds.ask(1, "a", "write")
        self.holds.ask(2, "a", "write")
        self.holds.keep(2, {"b": "read"})
        self.assertEqual(self.holds.waiting(), {})

    def test_of_nothing(self):
        self.holds.keep(6, {})
        self.assertEqual((self.holds.pledged(), self.holds.of(6)), ([6], {}))

    def test_what_is_handed_in_is_neither_kept_nor_changed(self):
        some = {"b": "write", "a": "read"}
        self.holds.keep(6, some)
        self.holds.keep(6, {"z": "read"})
        self.assertEqual(list(some.items()), [("b", "write"), ("a", "read")])
        some["c"] = "write"
        some["a"] = "write"
        self.assertEqual(self.holds.of(6), {"a": "read", "b": "write", "z": "read"})


class Waiting(unittest.TestCase):
    def setUp(self):
        self.holds = Holds()

    def test_for_all_that_bar_it_sorted(self):
        for dealing in (3, 1, 2):
            self.holds.ask(dealing, "a", "read")
        self.holds.ask(9, "a", "write")
        self.assertEqual(self.holds.waiting(), {9: [1, 2, 3]})

    def test_its_last_asking_counts(self):
        self.holds.ask(1, "a", "write")
        self.holds.ask(2, "b", "write")
        self.holds.ask(5, "a", "read")
        self.holds.ask(5, "b", "read")
        self.assertEqual(self.holds.waiting(), {5: [2]})
        self.holds.ask(5, "c", "read")
        self.assertEqual(self.holds.waiting(), {})

    def test_an_asking_for_what_it_holds_ends_it(self):
        self.holds.ask(1, "a", "write")
        self.holds.ask(5, "b", "read")
        self.holds.ask(5, "a", "read")
        self.assertEqual(self.holds.ask(5, "b", "read"), ("held", []))
        self.assertEqual(self.holds.waiting(), {})

    def test_none_without_one_that_bars_it_now(self):
        self.holds.ask(1, "a", "read")
        self.holds.ask(2, "a", "read")
        self.holds.ask(5, "a", "write")
        self.holds.free(1)
        self.assertEqual(self.holds.waiting(), {5: [2]})
        self.holds.free(2)
        self.assertEqual(self.holds.waiting(), {})

    def test_younger_ones_that_came_between_are_not_told(self):
        self.holds.ask(1, "a", "read")
        self.holds.ask(5, "a", "write")
        self.holds.ask(9, "a", "read")
        self.assertEqual(self.holds.waiting(), {5: [1]})
        self.holds.pledge(9)
        self.assertEqual(self.holds.waiting(), {5: [1, 9]})
        self.holds.free(1)
        self.holds.free(9)
        self.holds.ask(9, "a", "read")
        self.assertEqual(self.holds.waiting(), {})
        self.assertEqual(self.holds.ask(5, "a", "write"), ("held", [9]))

    def test_who_is_freed_waits_no_more(self):
        self.holds.ask(1, "a", "write")
        self.holds.ask(5, "a", "write")
        self.holds.free(5)
        self.assertEqual(self.holds.waiting(), {})


class Telling(unittest.TestCase):
    def setUp(self):
        self.holds = Holds()
        self.holds.ask(1, "a", "write")
        self.holds.ask(5, "b", "read")
        self.holds.ask(2, "b", "write")
        self.holds.ask(6, "a", "read")
        self.holds.pledge(1)

    def test_keys_sorted(self):
        for key in ("c", "ab", "*", "b"):
            self.holds.ask(8, key, "read")
        self.assertEqual(list(self.holds.of(8)), ["*", "ab", "c"])

    def test_of_one_never_heard_of(self):
        self.assertEqual(self.holds.of(77), {})
        self.assertIsNone(self.holds.free(77))

    def test_what_is_told_is_the_askers_own(self):
        tellings = {
            "of": lambda: self.holds.of(1), "waiting": self.holds.waiting,
            "called_off": self.holds.called_off, "pledged": self.holds.pledged}
        wanted = {"of": {"a": "write"}, "waiting": {6: [1]}, "called_off": [5], "pledged": [1]}
        for name, tell in tellings.items():
            told = tell()
            self.assertEqual(told, wanted[name])
            if name == "waiting":
                told[6].append(99)
            told.clear()
            self.assertEqual(tell(), wanted[name])
        before = self.holds.waiting()
        self.holds.free(1)
        self.assertEqual(before, {6: [1]})

    def test_those_called_off_are_the_askers_own(self):
        word, off = self.holds.ask(0, "b", "write")
        self.assertEqual(off, [2])
        off.append(1)
        self.assertEqual(self.holds.called_off(), [2, 5])
        held = self.holds.ask(0, "b", "write")[1]
        held.append(1)
        self.assertEqual(self.holds.ask(0, "b", "write"), ("held", []))


class Twins(unittest.TestCase):
    def test_each_goes_on_by_itself(self):
        first = Holds()
        first.ask(1, "a", "write", age=4)
        first.ask(5, "a", "read")
        first.ask(7, "b", "write")
        first.ask(6, "b", "read")
        first.pledge(6)
        twin = first.twin()
        self.assertIsInstance(twin, Holds)

        def seen(holds):
            return ([holds.of(d) for d in range(9)], holds.waiting(), holds.called_off(), holds.pledged())
        was = seen(first)
        self.assertEqual(seen(twin), was)
        twin.ask(1, "c", "write")
        twin.free(7, forget=True)
        twin.keep(8, {"d": "read"})
        twin.free(6)
        twin.free(5)
        self.assertEqual(seen(first), was)
        later = seen(twin)
        first.free(1)
        first.ask(2, "a", "write")
        first.ask(0, "c", "write")
        self.assertEqual(seen(twin), later)

    def test_ages_go_along(self):
        first = Holds()
        first.ask(1, "a", "write", age=4)
        self.assertEqual(first.twin().ask(2, "a", "write"), ("held", [1]))
        self.assertEqual(first.ask(2, "a", "write", age=5), ("waits", []))


class Rings(unittest.TestCase):
    def test_who_waits_waits_for_elder_or_pledged_ones_and_these_for_none(self):
        chance = random.Random(8)
        for run in range(60):
            holds = Holds()
            ages = {}
            for step in range(80):
                dealing = chance.randrange(8)
                deed = chance.randrange(12)
                if deed == 0:
                    holds.free(dealing, forget=True)
                    ages.pop(dealing, None)
                elif deed == 1:
                    holds.pledge(dealing)
                else:
                    age = chance.randrange(5)
                    try:
                        holds.ask(dealing, chance.choice("abc"), chance.choice(("read", "write")), age=age)
                        ages.setdefault(dealing, age)
                    except Off:
                        self.assertIn(dealing, holds.called_off() + holds.pledged())
                self.check(holds, ages)

    def check(self, holds, ages):
        pledged = holds.pledged()
        for dealing, others in holds.waiting().items():
            self.assertNotIn(dealing, pledged)
            self.assertTrue(others)
            for other in others:
                elder = (ages.get(other), other) < (ages[dealing], dealing) if other in ages else False
                self.assertTrue(other in pledged or elder)
        for key in "abc":
            modes = [holds.of(d).get(key) for d in range(8) if key in holds.of(d)]
            self.assertTrue("write" not in modes or len(modes) == 1)


if __name__ == "__main__":
    unittest.main()
