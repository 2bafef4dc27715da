"""Letters that a house is given, and what it answers."""

import unittest

from stampedwait.errors import NoHead, NoLetter, Waits
from tests.made import Case, book, ended, house_of, pledge_to, pledged, reign_anew, tick_all
from tests.things import BIG, ODD, Hostile, Yielding

WORDS = ("pledge", "yes", "no", "done", "off", "what")


def in_states(number=0):
    """A house that notes 1 as pledged, 2 as sure, 3 as done, 4 as off, 5 as off behind a pledge; of 6 nothing.

    The home of all is house 0; each is of all three houses.
    """
    house = house_of(number=number, houses=3)
    for dealing in (1, 2, 3, 5):
        pledged(house, dealing, houses=(0, 1, 2), reads=(("a", "b", "c")[number],))
    if number == 0:
        for dealing in (2, 3):
            for sender in (1, 2):
                house.receive(("yes", dealing, sender, 0, (0, 1, sender)))
        tick_all(house, 1)
        house.tell(3)
        house.receive(("no", 5, 2, 0, None))
    else:
        house.receive(("done", 3, 0, number, (0, 20, 0)))
        house.receive(("off", 5, 0, number, None))
    house.receive(("off", 4, 0, number, None))
    return house


def words_of(house):
    return [house.ledger().word(dealing) for dealing in range(1, 7)]


class States(unittest.TestCase):
    def test_as_told_above(self):
        self.assertEqual(words_of(in_states(0)), ["pledged", "sure", "done", "off", "off", None])
        self.assertEqual(words_of(in_states(1)), ["pledged", "pledged", "done", "off", "off", None])


class NoLetters(Case):
    def test_of_anything(self):
        things = ODD + [Hostile(), Yielding(), 0, BIG]
        for word in WORDS:
            letter = (word, 1, 1, 0, None)
            things += [list(letter), letter[:4], letter + (None,), (), letter[1:], word, {word: letter}]
            for at in (1, 2, 3):
                for odd in ODD:
                    things.append(letter[:at] + (odd,) + letter[at + 1:])
            for to in (1, 2, -1, BIG):
                things.append((word, 1, 1, to, None))
        for odd in ODD + ["Pledge", "yes ", " no", "mark", "sure", "gone", 0, b"yes"]:
            things.append((odd, 1, 1, 0, None))
        house = house_of()
        nobody = house_of(head=None)
        for thing in things:
            for each in (house, nobody):
                with self.assertRaises(NoLetter):
                    each.receive(thing)
        self.assertEqual(book(house), [])

    def test_to_another_house(self):
        house = house_of(number=1)
        self.refused(house, NoLetter, lambda: house.receive(("off", 1, 1, 0, None)))
        self.assertEqual(house.receive(thing=("off", 1, 0, 1, None)), [])

    def test_then_no_head_where_nothing_could_be_written(self):
        house = house_of(copies=3)
        house.receive(("off", 4, 1, 0, None))
        house.stop(1)
        house.stop(2)
        for word in WORDS:
            letter = (word, 4, 1, 0, (0, 1, 1)) if word != "pledge" else pledge_to(0, 4)
            # also where nothing has to be written
            self.refused(house, NoHead, lambda: house.receive(letter), house=0)
        house.back(1)
        self.assertEqual(house.receive(("off", 4, 1, 0, None)), [])


class Pledges(Case):
    def test_pledged_away_from_home(self):
        house = house_of(number=1, houses=3, low=7, high=9)
        house.hold(4, "b", "write", reign=1)
        house.hold(4, "e", "read", reign=1)
        house.hold(4, "h", "read", reign=1)
        letter = pledge_to(1, 4, (0, 1), ("b", "e"), (("b", (5, 6)),))
        self.assertEqual(house.receive(letter), [("yes", 4, 1, 0, (7, 1, 1))])
        entry = ("pledge", 4, 0, (0, 1), (7, 1, 1), ("b", "e"), (("b", (5, 6)),), None)
        self.assertEqual(book(house), [entry])
        self.assertEqual(house.ledger().pledge_of(4), entry)
        self.assertEqual(house.holds().pledged(), [4])
        self.assertEqual(house.holds().of(4), {"b": "write", "e": "read", "h": "read"})

    def test_doubled(self):
        house = house_of(number=1, low=7, high=7)
        first = pledged(house, 4, reads=("b",))
        tick_all(house, 5)
        for reign in (1, 9):
            again = self.unchanged(house, lambda: house.receive(pledge_to(1, 4, reads=("b",), reign=reign)))
            self.assertEqual(again, first)

    def test_yes_again_in_another_reign(self):
        house = house_of(number=1, low=7, high=7)
        first = pledged(house, 4, reads=("b",))
        reign_anew(house)
        self.assertEqual(house.receive(pledge_to(1, 4, reads=("b",))), first)

    def test_stamp_by_the_clocks_low(self):
        house = house_of(number=1, low=7, high=90)
        self.assertEqual(pledged(house, 4)[0][4], (7, 1, 1))

    def test_stamp_by_the_last_stamp(self):
        house = house_of(number=1, low=7, high=7)
        ended(house, 1, 30, home=0, serial=12)
        self.assertEqual(pledged(house, 4)[0][4], (30, 13, 1))
        # the greatest serial, not that of the greatest stamp
        self.assertEqual(pledged(house, 5)[0][4], (30, 14, 1))
        house.receive(("done", 4, 0, 1, (40, 3, 0)))
        self.assertEqual(pledged(house, 6)[0][4], (40, 15, 1))

    def test_stamp_above_the_floor(self):
        house = house_of(number=1, low=7, high=9)
        house.read("b", 9)
        self.assertEqual(pledged(house, 4)[0][4], (10, 1, 1))

    def test_by_another_reign(self):
        house = house_of(number=1)
        house.hold(4, "b", "read", reign=1)
        for reign in (0, 2):
            each = house.twin()
            letter = pledge_to(1, 4, reads=("b",), reign=reign)
            self.assertEqual(each.receive(letter), [("no", 4, 1, 0, None)])
            self.assertEqual((book(each), each.holds().of(4)), ([("off", 4)], {}))
            self.assertEqual(self.unchanged(each, lambda: each.receive(letter)), [("no", 4, 1, 0, None)])
            self.assertEqual(self.unchanged(each, lambda: each.receive(pledge_to(1, 4))), [("no", 4, 1, 0, None)])

    def test_what_it_does_not_hold_so(self):
        for held, reads, writes in [({}, ("b",), ()), ({}, (), (("b", (1,)),)), ({"b": "read"}, (), (("b", (1,)),)),
                                    ({"b": "read"}, ("b", "d"), ()), ({"b": "write"}, ("d",), (("b", (1,)),))]:
            house = house_of(number=1)
            for key, mode in held.items():
                house.hold(4, key, mode, reign=1)
            self.assertEqual(house.receive(pledge_to(1, 4, reads=reads, writes=writes)), [("no", 4, 1, 0, None)])
            self.assertEqual((book(house), house.holds().of(4)), ([("off", 4)], {}))

    def test_write_is_enough_to_read(self):
        house = house_of(number=1)
        house.hold(4, "b", "write", reign=1)
        self.assertEqual(house.receive(pledge_to(1, 4, reads=("b",)))[0][0], "yes")

    def test_that_reads_and_writes_nothing(self):
        house = house_of(number=1)
        self.assertEqual(house.receive(pledge_to(1, 4)), [("yes", 4, 1, 0, (0, 1, 1))])

    def test_called_off(self):
        house = house_of(number=1)
        house.hold(4, "b", "write", reign=1)
        house.hold(3, "b", "write", reign=1)
        # it reads and writes nothing, but was called off
        self.assertEqual(house.receive(pledge_to(1, 4)), [("no", 4, 1, 0, None)])
        self.assertEqual(book(house), [("off", 4)])

    def test_the_home_is_the_least_of_the_houses(self):
        house = house_of(number=2, houses=4)
        letter = ("pledge", 4, 3, 2, ((1, 2, 3), 1, (), (), None))
        self.assertEqual(house.receive(letter), [("yes", 4, 2, 1, (0, 1, 2))])
        self.assertEqual(book(house)[0][2:4], (1, (1, 2, 3)))

    def test_in_each_state(self):
        answers = {0: {3: [], 2: [], 4: [], 5: [("off", 5, 0, 1, None), ("off", 5, 0, 2, None)], 1: []},
                   1: {3: [], 4: [("no", 4, 1, 0, None)], 5: [("no", 5, 1, 0, None)],
                       1: [("yes", 1, 1, 0, (0, 1, 1))], 2: [("yes", 2, 1, 0, (0, 2, 1))]}}
        for number, wanted in answers.items():
            house = in_states(number)
            for dealing, told in wanted.items():
                letter = pledge_to(number, dealing, (0, 1, 2))
                self.assertEqual(self.unchanged(house, lambda: house.receive(letter)), told, (number, dealing))

    def test_at_home_answers_are_done_at_once(self):
        house = house_of(low=7, high=9, houses=3)
        self.assertEqual(pledged(house, 4, houses=(0,), reads=("a",)), [])
        self.assertEqual(book(house)[1:], [("sure", 4, (9, 2, 0), 7)])
        self.assertEqual(pledged(house, 5, houses=(0, 2)), [])
        self.assertEqual(house.ledger().word(5), "pledged")
        house.hold(6, "d", "read", reign=1)
        # off at its home without a pledge: no other house said no
        self.assertEqual(house.receive(pledge_to(0, 6, (0, 2), ("g",))), [])
        self.assertEqual((house.ledger().word(6), house.holds().of(6)), ("off", {}))


class MovesInPledges(Case):
    def test_the_moved_key_to_write(self):
        move = ("move", "b", 0)
        for held, word in [({"b": "write"}, "yes"), ({"b": "read"}, "no"), ({"d": "write"}, "no"), ({}, "no"),
                           ({"b": "write", "d": "read"}, "yes")]:
            for number in (1, 2):
                house = house_of(number=number, houses=3)
                for key, mode in held.items():
                    house.hold(4, key, mode, reign=1, coming=True)
                told = house.receive(pledge_to(number, 4, (0, 1, 2), more=move))
                self.assertEqual([letter[0] for letter in told], [word])
        self.assertEqual(book(house)[0][7], move)

    def test_what_it_reads_and_writes_must_be_held_too(self):
        house = house_of(number=1)
        house.hold(4, "b", "write", reign=1)
        self.assertEqual(house.receive(pledge_to(1, 4, reads=("d",), more=("move", "b", 0)))[0][0], "no")


class FormsInPledges(Case):
    def answer(self, house, time, number=1, hold=True):
        if hold:
            house.hold(4, "*", "write", reign=1)
        return house.receive(pledge_to(number, 4, more=("form", time, 2)))[0][0]

    def test_above_the_high(self):
        for time, word in ((9, "no"), (10, "yes")):
            self.assertEqual(self.answer(house_of(number=1, low=5, high=9), time), word)

    def test_above_the_floor(self):
        for time, word in ((9, "no"), (10, "yes")):
            house = house_of(number=1, low=5, high=9)
            house.rise(9)
            house.set_clock(0, 5, 6)
            self.assertEqual(self.answer(house, time), word)

    def test_above_the_last_stamp(self):
        for time, word in ((30, "no"), (31, "yes")):
            house = house_of(number=1, low=5, high=9)
            ended(house, 1, 30, home=0)
            self.assertEqual(self.answer(house, time), word)

    def test_the_form_itself_to_write(self):
        house = house_of(number=1)
        self.assertEqual(self.answer(house, 50, hold=False), "no")
        other = house_of(number=1)
        other.hold(4, "*", "read", reign=1)
        self.assertEqual(self.answer(other, 50, hold=False), "no")

    def test_other_keys_do_not_matter(self):
        house = house_of(number=1)
        house.hold(4, "b", "write", reign=1)
        self.assertEqual(self.answer(house, 50), "yes")
        self.assertEqual(book(house)[0][7], ("form", 50, 2))

    def formed(self, more=("form", 20, 2)):
        house = house_of(number=1, low=5, high=9)
        pledged(house, 4, more=more)
        return house

    def test_no_other_one_is_pledged_whose_stamp_would_come_to_it(self):
        house = self.formed()
        house.hold(5, "b", "write", reign=1)
        letter = pledge_to(1, 5, writes=(("b", (1,)),))
        tick_all(house, 14)
        early = house.twin()
        self.assertEqual(early.receive(letter), [("yes", 5, 1, 0, (19, 2, 1))])
        tick_all(house, 1)
        self.refused(house, Waits, lambda: house.receive(letter), time=20)
        # what can't be pledged anyway is off
        self.assertEqual(house.receive(pledge_to(1, 6, reads=("b",)))[0][0], "no")
        self.assertEqual(house.receive(pledge_to(1, 4))[0][0], "yes")
        house.receive(("done", 4, 0, 1, (12, 4, 0)))
        self.assertEqual(house.receive(letter), [("yes", 5, 1, 0, (20, 5, 1))])

    def test_nor_while_it_is_sure(self):
        house = house_of(low=5, high=9)
        pledged(house, 4, houses=(0,), more=("form", 20, 2))
        self.assertEqual(house.ledger().word(4), "sure")
        tick_all(house, 15)
        self.refused(house, Waits, lambda: house.receive(pledge_to(0, 5)), time=20)
        house.tell(4)
        self.assertEqual(house.receive(pledge_to(0, 5)), [])
        self.assertEqual(house.ledger().word(5), "pledged")

    def test_off_at_its_deciding_where_the_stamp_is_not_less(self):
        for high, word in ((19, "sure"), (20, "off")):
            house = house_of(houses=3, low=5, high=9)
            pledged(house, 4, houses=(0, 1, 2), more=("form", 20, 2))
            house.receive(("yes", 4, 1, 0, (8, 1, 1)))
            tick_all(house, high - 9)
            told = house.receive(("yes", 4, 2, 0, (8, 1, 2)))
            self.assertEqual(house.ledger().word(4), word)
            off = [("off", 4, 0, 1, None), ("off", 4, 0, 2, None)]
            self.assertEqual(told, off if word == "off" else [])
            self.assertEqual(house.holds().of(4), {} if word == "off" else {"*": "write"})

    def test_off_by_the_stamp_of_another_house(self):
        house = house_of(low=5, high=9)
        pledged(house, 4, more=("form", 20, 2))
        self.assertEqual(house.receive(("yes", 4, 1, 0, (20, 1, 1))), [("off", 4, 0, 1, None)])
        self.assertEqual(book(house)[-1], ("off", 4))

    def test_off_at_once_at_home(self):
        house = house_of(houses=1, low=5, high=9)
        house.read("a", 9)
        tick_all(house, 0)
        # its pledge is at 10, as the form's time is
        self.assertEqual(pledged(house, 4, houses=(0,), more=("form", 10, 2)), [])
        self.assertEqual(house.ledger().word(4), "off")


class Yeses(Case):
    def test_sure_when_all_said_yes(self):
        house = house_of(low=7, high=9, houses=3)
        pledged(house, 4, houses=(0, 1, 2), reads=("a",))
        self.assertEqual(house.receive(("yes", 4, 1, 0, (30, 6, 1))), [])
        self.assertEqual(house.ledger().word(4), "pledged")
        tick_all(house, 2)
        self.assertEqual(house.receive(("yes", 4, 2, 0, (25, 9, 2))), [])
        self.assertEqual(book(house)[-1], ("sure", 4, (30, 10, 0), 9))
        self.assertEqual(house.holds().of(4), {"a": "read"})
        self.assertEqual(house.holds().pledged(), [4])

    def test_stamp_by_the_high(self):
        house = house_of(low=7, high=50)
        pledged(house, 4)
        house.receive(("yes", 4, 1, 0, (30, 6, 1)))
        self.assertEqual(book(house)[-1], ("sure", 4, (50, 7, 0), 7))

    def test_stamp_by_its_own_time(self):
        house = house_of(low=7, high=9)
        ended(house, 1, 80, serial=3)
        pledged(house, 4)
        house.receive(("yes", 4, 1, 0, (30, 1, 1)))
        self.assertEqual(book(house)[-1], ("sure", 4, (80, 5, 0), 7))

    def test_serial_by_the_last_one(self):
        house = house_of(low=7, high=9)
        pledged(house, 4)
        ended(house, 1, 8, serial=40)
        house.receive(("yes", 4, 1, 0, (30, 6, 1)))
        self.assertEqual(book(house)[-1], ("sure", 4, (30, 41, 0), 7))

    def test_kept_ahead_of_the_pledge(self):
        house = house_of(low=7, high=9)
        self.assertEqual(self.unchanged(house, lambda: house.receive(("yes", 4, 1, 0, (30, 6, 1)))), [])
        self.assertEqual(pledged(house, 4), [])
        self.assertEqual(house.ledger().word(4), "sure")

    def test_of_other_houses_does_not_count(self):
        house = house_of(houses=3)
        pledged(house, 4, houses=(0, 1))
        house.receive(("yes", 4, 2, 0, (90, 6, 2)))
        self.assertEqual(house.ledger().word(4), "pledged")
        house.receive(("yes", 4, 1, 0, (30, 6, 1)))
        self.assertEqual(house.ledger().stamp_of(4), (30, 7, 0))

    def test_of_other_dealings_does_not_count(self):
        house = house_of()
        pledged(house, 4)
        house.receive(("yes", 5, 1, 0, (90, 6, 1)))
        self.assertEqual(house.ledger().word(4), "pledged")

    def test_doubled_and_late(self):
        house = in_states(0)
        for dealing in (2, 3, 4, 5, 6):
            for sender in (0, 1, 2, 1):
                letter = ("yes", dealing, sender, 0, (70, 70, sender))
                self.assertEqual(self.unchanged(house, lambda: house.receive(letter)), [])
        house.receive(("yes", 1, 1, 0, (0, 1, 1)))
        house.receive(("yes", 1, 1, 0, (0, 1, 1)))
        self.assertEqual(house.ledger().word(1), "pledged")

    def test_another_house_decides_nothing(self):
        house = in_states(1)
        for sender in (0, 1, 2):
            letter = ("yes", 1, sender, 1, (70, 70, sender))
            self.assertEqual(self.unchanged(house, lambda: house.receive(letter)), [])


class Noes(Case):
    def test_off_to_all_other_houses_of_the_pledge(self):
        house = house_of(houses=4)
        pledged(house, 4, houses=(0, 1, 2, 3), reads=("a",))
        off = [("off", 4, 0, to, None) for to in (1, 2, 3)]
        self.assertEqual(house.receive(("no", 4, 2, 0, None)), off)
        self.assertEqual((book(house)[-1], house.holds().of(4), house.holds().pledged()), (("off", 4), {}, []))
        # perhaps already: told again, written once
        self.assertEqual(self.unchanged(house, lambda: house.receive(("no", 4, 1, 0, None))), off)

    def test_without_a_pledge_to_the_one_that_said_no(self):
        house = house_of(houses=3)
        house.hold(4, "a", "read", reign=1)
        self.assertEqual(house.receive(("no", 4, 2, 0, None)), [("off", 4, 0, 2, None)])
        self.assertEqual((book(house), house.holds().of(4)), ([("off", 4)], {}))
        again = self.unchanged(house, lambda: house.receive(("no", 4, 1, 0, None)))
        self.assertEqual(again, [("off", 4, 0, 1, None)])

    def test_sure_and_done_ones_stay(self):
        house = in_states(0)
        for dealing in (2, 3):
            self.assertEqual(self.unchanged(house, lambda: house.receive(("no", dealing, 2, 0, None))), [])

    def test_a_pledge_that_comes_behind_it_is_refused(self):
        house = house_of()
        house.hold(4, "a", "read", reign=1)
        house.receive(("no", 4, 1, 0, None))
        self.assertEqual(house.receive(pledge_to(0, 4, reads=("a",))), [])
        self.assertEqual(house.ledger().word(4), "off")

    def test_only_its_home_decides_of_what_is_pledged(self):
        house = in_states(1)
        self.assertEqual(self.unchanged(house, lambda: house.receive(("no", 1, 2, 1, None))), [])


class Dones(Case):
    def test_a_pledged_one_is_done(self):
        house = house_of(number=1, low=7, high=7)
        pledged(house, 4, writes=(("b", (1, 2)),))
        self.assertEqual(house.receive(("done", 4, 0, 1, (30, 5, 0))), [])
        self.assertEqual(book(house)[-1], ("done", 4, (30, 5, 0)))
        self.assertEqual((house.holds().of(4), house.holds().pledged()), ({}, []))
        self.assertEqual(house.ledger().shelf().versions("b"), [((30, 5, 0), (1, 2))])
        self.assertEqual(house.hold(9, "b", "write", reign=1), ("held", []))

    def test_all_others_stay(self):
        for number, dealings in ((0, (2, 3, 4, 5, 6)), (1, (3, 4, 5, 6))):
            house = in_states(number)
            house.hold(6, "ab"[number], "read", reign=1)
            for dealing in dealings:
                letter = ("done", dealing, 2, number, (99, 99, 0))
                self.assertEqual(self.unchanged(house, lambda: house.receive(letter)), [])


class Offs(Case):
    def test_a_pledged_one(self):
        house = house_of(number=1)
        pledged(house, 4, writes=(("b", (1, 2)),))
        self.assertEqual(house.receive(("off", 4, 0, 1, None)), [])
        self.assertEqual((book(house)[-1], house.holds().of(4), house.holds().pledged()), (("off", 4), {}, []))
        self.assertIsNone(house.ledger().shelf().newest("b"))

    def test_where_nothing_was_noted(self):
        house = house_of(number=1)
        house.hold(4, "b", "write", reign=1)
        self.assertEqual(house.receive(("off", 4, 0, 1, None)), [])
        self.assertEqual((book(house), house.holds().of(4)), ([("off", 4)], {}))

    def test_all_others_stay(self):
        for number, dealings in ((0, (2, 3, 4, 5)), (1, (3, 4, 5))):
            house = in_states(number)
            for dealing in dealings:
                letter = ("off", dealing, 2, number, None)
                self.assertEqual(self.unchanged(house, lambda: house.receive(letter)), [])


class Whats(Case):
    def test_in_each_state(self):
        for number in (0, 1):
            house = in_states(number)
            stamp = house.ledger().stamp_of(3)
            answers = {1: [], 2: [], 3: [("done", 3, number, 2, stamp)],
                       4: [("off", 4, number, 2, None)], 5: [("off", 5, number, 2, None)]}
            for dealing, told in answers.items():
                letter = ("what", dealing, 2, number, None)
                self.assertEqual(self.unchanged(house, lambda: house.receive(letter)), told)

    def test_where_nothing_is_noted_it_is_off(self):
        for number in (0, 1):
            house = in_states(number)
            house.hold(6, "ab"[number], "write", reign=1)
            letter = ("what", 6, 2, number, None)
            self.assertEqual(house.receive(letter), [("off", 6, number, 2, None)])
            self.assertEqual((book(house)[-1], house.holds().of(6)), (("off", 6), {}))
            self.assertEqual(self.unchanged(house, lambda: house.receive(letter)), [("off", 6, number, 2, None)])


class Own(unittest.TestCase):
    def test_answers_are_the_askers_own(self):
        house = house_of(houses=3)
        pledged(house, 4, houses=(0, 1, 2))
        told = house.receive(("no", 4, 1, 0, None))
        told.clear()
        self.assertEqual(len(house.receive(("no", 4, 1, 0, None))), 2)
        self.assertEqual(book(house)[-1], ("off", 4))

    def test_letters_hold_tuples(self):
        house = house_of(number=1)
        for letter in pledged(house, 4) + house.questions():
            self.assertIsInstance(letter, tuple)


if __name__ == "__main__":
    unittest.main()
