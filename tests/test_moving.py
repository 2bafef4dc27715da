"""Moves of keys and forms ahead (25, 26, 27)."""

import unittest

from stampedwait.errors import NoCopy, NoDeed, NoForm, NoHead, NoKey, Off, Waits
from stampedwait.moving import form_ahead, move
from stampedwait.snapshots import read_at
from tests.things import BIG, ODD
from tests.worlds import WorldCase, deliver_all, reign_anew, sure_of, told_at_last, world_of, wrote


def done(world, dealing):
    """Finished and told at last: its stamp."""
    world.finish(dealing)
    return told_at_last(world, dealing)


def words_at(world, dealing):
    return [world.seen_house(house).ledger().word(dealing) for house in range(world.houses())]


def deliver_those(world, some):
    for number in some:
        world.deliver(number)


class Moving(WorldCase):
    def test_what_it_takes_reads_and_writes(self):
        world = world_of(3)
        sure_of(world, {"b": (1, 2)})
        dealing = move(world, "b", 0)
        self.assertEqual((dealing, world.word(dealing), len(world)), (1, "open", 2))
        self.assertEqual([world.seen_house(house).holds().of(dealing) for house in range(3)],
                         [{"b": "write"}, {"b": "write"}, {}])
        world.finish(dealing)
        more = ("move", "b", 0)
        self.assertEqual([letter[3:] for letter in world.letters().values()], [
            (0, ((0, 1), 1, (), (("b", (1, 2)),), more)), (1, ((0, 1), 1, ("b",), (), more))])

    def test_with_a_worth(self):
        world = world_of()
        sure_of(world, {"a": (7,)})
        world.tick(5)
        begun = world.true_now()
        dealing = move(world=world, key="a", to=1)
        stamp = done(world, dealing)
        self.assertEqual(world.history()[1],
                         ("dealing", dealing, begun, begun + 1, stamp, [("a", (7,))], [("a", (7,))]))
        self.assertEqual(world.house_with("a"), 1)
        for house in (0, 1):
            ledger = world.seen_house(house).ledger()
            self.assertEqual([ledger.house_at("a", stamp[0] - 1), ledger.house_at("a", stamp[0])], [0, 1])
        world.tick(2)
        self.assertEqual([world.look(0, "a", stamp[0] - 1), world.look(1, "a", stamp[0])], [(7,), (7,)])
        self.assertEqual(read_at(world, stamp[0] - 1, ["a"]), {"a": (7,)})
        self.assertEqual(read_at(world, stamp[0], ["a"]), {"a": (7,)})
        other = world.begin()
        world.take(other, "a", "write")
        self.assertEqual(world.read(other, "a"), (7,))
        self.assertEqual(world.seen_house(1).holds().of(other), {"a": "write"})

    def test_without_a_worth(self):
        world = world_of()
        stamp = done(world, move(world, "a", 1))
        self.assertEqual(world.history(), [("dealing", 0, 0, 1, stamp, [("a", None)], [])])
        self.assertEqual(world.house_with("a"), 1)
        self.assertEqual(len(world.seen_house(1).ledger().shelf()), 0)

    def test_there_already(self):
        world = world_of()
        self.refused(world, NoDeed, lambda: move(world, "a", 0))
        done(world, move(world, "a", 1))
        self.refused(world, NoDeed, lambda: move(world, "a", 1))
        self.assertEqual(move(world, "a", 0), 1)

    def test_the_order_of_refusals(self):
        world = world_of(2, heads=False)
        for thing in ODD + [5]:
            with self.assertRaises(NoKey) as caught:
                move(world, thing, "x")
            self.assertIs(caught.exception.key, thing)
        for thing in ODD + [2, -1, BIG]:
            with self.assertRaises(NoCopy) as caught:
                move(world, "a", thing)
            self.assertIs(caught.exception.copy, thing)
        self.refused(world, NoHead, lambda: move(world, "b", 0), house=1)
        self.refused(world, NoHead, lambda: move(world, "b", 1), house=1)
        world.choose(1, 0)
        self.refused(world, NoHead, lambda: move(world, "b", 0), house=0)
        self.refused(world, NoDeed, lambda: move(world, "b", 1))
        self.assertEqual(len(world), 0)

    def test_where_it_had_to_wait_it_is_off(self):
        world = world_of()
        elder = world.begin()
        world.take(elder, "a", "read")
        self.raised(Off, lambda: move(world, "a", 1), dealing=1)
        self.assertEqual((len(world), world.word(1), world.waiting()), (2, "off", {}))
        for house in (0, 1):
            self.assertEqual(world.seen_house(house).holds().of(1), {})
        self.assertEqual(world.word(elder), "open")

    def test_waiting_where_it_is_moved_to(self):
        world = world_of()
        other = world.begin()
        world.take_at(other, 1, "a", "write", coming=True)
        self.raised(Off, lambda: move(world, "a", 1), dealing=1)
        self.assertEqual([world.seen_house(house).holds().of(1) for house in (0, 1)], [{}, {}])

    def test_waiting_for_a_pledged_move(self):
        world = world_of(3)
        first = move(world, "a", 1)
        world.finish(first)
        deliver_all(world)
        world.tick(2)
        world.tell(first)
        self.assertEqual(words_at(world, first), ["done", "pledged", None])
        self.raised(Off, lambda: move(world, "a", 2), dealing=1)
        deliver_all(world)
        self.assertEqual(done(world, move(world, "a", 2))[1] > 0, True)
        self.assertEqual(world.house_with("a"), 2)

    def test_it_goes_on_as_others_do(self):
        world = world_of()
        sure_of(world, {"a": (1,), "c": (2,)})
        dealing = move(world, "a", 1)
        world.take(dealing, "c", "write")
        self.assertEqual(world.read(dealing, "c"), (2,))
        world.write(dealing, "c", (3,))
        self.assertEqual(world.read(dealing, "a"), (1,))
        # its own key is written for the house to which it moves
        world.write(dealing, "a", (8,))
        self.assertEqual(world.read(dealing, "a"), (8,))
        stamp = done(world, dealing)
        self.assertEqual(world.history()[-1][4:],
                         (stamp, [("a", (1,)), ("c", (2,))], [("a", (8,)), ("c", (3,))]))
        self.assertEqual([world.seen_house(house).ledger().shelf().newest("a") for house in (0, 1)], [(1,), (8,)])

    def test_written_for_the_new_house_whichever_is_less(self):
        world = world_of()
        dealing = move(world, "b", 0)
        self.assertIsNone(world.read(dealing, "b"))
        world.write(dealing, "b", (5,))
        world.finish(dealing)
        self.assertEqual([letter[4][3] for letter in world.letters().values()], [(("b", (5,)),), ()])
        told_at_last(world, dealing)
        self.assertEqual(world.seen_house(0).ledger().shelf().newest("b"), (5,))

    def test_given_up(self):
        world = world_of()
        dealing = move(world, "a", 1)
        world.finish(dealing)
        deliver_all(world)
        other = move(world, "c", 1)
        world.give_up(other)
        self.assertEqual(world.word(other), "off")
        self.assertEqual([world.seen_house(house).holds().of(other) for house in (0, 1)], [{}, {}])
        self.assertEqual(world.house_with("c"), 0)

    def test_back_and_forth(self):
        world = world_of()
        sure_of(world, {"a": (1,)})
        stamps = []
        for to in (1, 0, 1, 0):
            stamps.append(done(world, move(world, "a", to)))
            sure_of(world, {"a": (to, 2)})
            world.tick(3)
        self.assertEqual(stamps, sorted(stamps))
        self.assertEqual(world.house_with("a"), 0)
        for stamp, to in zip(stamps, (1, 0, 1, 0)):
            self.assertEqual(world.look(to, "a", stamp[0] + 1), (to, 2))
        self.assertEqual(read_at(world, stamps[1][0], ["a"]), {"a": (1, 2)})

    def test_a_way_back_that_is_pledged(self):
        world = world_of()
        done(world, move(world, "a", 1))
        back = move(world, "a", 0)
        world.finish(back)
        deliver_all(world)
        world.tick(2)
        world.tell(back)
        self.assertEqual(words_at(world, back), ["done", "pledged"])
        self.assertEqual(world.house_with("a"), 0)
        self.assertEqual(world.take(world.begin(), "a", "write"), "held")


class MovesInPledges(WorldCase):
    def test_other_keys_do_not_matter(self):
        world = world_of()
        dealing = move(world, "a", 1)
        world.take(dealing, "c", "read")
        world.take(dealing, "b", "write")
        done(world, dealing)
        self.assertEqual(words_at(world, dealing), ["done", "done"])

    def test_off_where_it_takes_keys_at_a_third_house(self):
        world = world_of(3)
        dealing = move(world, "a", 1)
        world.take(dealing, "c", "read")
        world.finish(dealing)
        deliver_all(world)
        self.assertEqual(world.word(dealing), "off")
        self.assertEqual(words_at(world, dealing), ["off", "off", "off"])
        self.assertEqual(world.house_with("a"), 0)

    def test_off_where_the_key_is_lost(self):
        world = world_of()
        dealing = move(world, "a", 1)
        world.finish(dealing)
        world.tick(1001)
        world.choose(1, 0)
        world.choose(0, 0)
        deliver_all(world)
        self.assertEqual(world.word(dealing), "off")


class Forms(WorldCase):
    def test_takes_the_form_itself_at_each_house(self):
        world = world_of(3)
        dealing = form_ahead(world, 20, 2)
        self.assertEqual((dealing, world.word(dealing)), (0, "open"))
        for house in range(3):
            self.assertEqual(world.seen_house(house).holds().of(dealing), {"*": "write"})
        world.finish(dealing)
        self.assertEqual([letter[4] for letter in world.letters().values()],
                         [((0, 1, 2), 1, (), (), ("form", 20, 2))] * 3)

    def test_worths_at_times_about_it(self):
        world = world_of()
        sure_of(world, {"a": (1, 2, 3), "b": (4,)})
        stamp = done(world, form_ahead(world=world, time=20, fields=2))
        self.assertEqual(world.history()[-2:], [("dealing", 1, 1, 2, stamp, [], []), ("form", 20, 2)])
        done(world, form_ahead(world, 25, 4))
        world.tick(30)
        for time, worths in ((19, ((1, 2, 3), (4,))), (20, ((1, 2), (4, 0))), (24, ((1, 2), (4, 0))),
                             (25, ((1, 2, 3, 0), (4, 0, 0, 0))), (30, ((1, 2, 3, 0), (4, 0, 0, 0)))):
            self.assertEqual(read_at(world, time, ["a", "b"]), {"a": worths[0], "b": worths[1]})
        # dealings read worths as they are
        dealing = world.begin()
        world.take(dealing, "a", "read")
        self.assertEqual(world.read(dealing, "a"), (1, 2, 3))

    def test_no_form_of_anything_else(self):
        world = world_of(1, heads=False)
        for thing in ODD:
            self.refused(world, NoForm, lambda: form_ahead(world, thing, 2))
        for thing in ODD + [0, 5, -1, BIG]:
            self.refused(world, NoForm, lambda: form_ahead(world, 20, thing))

    def test_no_head_of_the_first_house_that_has_none(self):
        world = world_of(3, heads=False)
        world.choose(0, 0)
        self.refused(world, NoHead, lambda: form_ahead(world, 20, 2), house=1)
        world.choose(1, 0)
        self.refused(world, NoHead, lambda: form_ahead(world, 20, 2), house=2)
        self.assertEqual(len(world), 0)

    def test_where_it_had_to_wait_it_is_off(self):
        world = world_of(3)
        first = form_ahead(world, 20, 2)
        self.raised(Off, lambda: form_ahead(world, 30, 3), dealing=1)
        self.assertEqual((world.word(1), world.word(first), world.waiting()), ("off", "open", {}))
        for house in range(3):
            self.assertEqual(world.seen_house(house).holds().of(1), {})

    def test_waiting_at_a_later_house(self):
        world = world_of(2)
        other = world.begin()
        world.take_at(other, 1, "*", "write")
        self.raised(Off, lambda: form_ahead(world, 20, 2), dealing=1)
        self.assertEqual(world.seen_house(0).holds().of(1), {})

    def pledged(self, world, time):
        dealing = form_ahead(world, time, 2)
        world.finish(dealing)
        deliver_all(world)
        return world.word(dealing)

    def test_pledged_only_above_high(self):
        for time, word in ((9, "off"), (10, "off"), (11, "asked")):
            world = world_of()
            world.tick(10)
            self.assertEqual(self.pledged(world, time), word)

    def test_pledged_only_above_the_floor(self):
        for time, is_pledged, word in ((14, False, "off"), (15, False, "off"), (16, True, "off"), (17, True, "asked")):
            world = world_of(drift=(1, 10))
            world.tick(10)
            world.rise(1, 15)
            world.set_clock(0, 0)
            world.set_clock(1, 0)
            # its stamp's time is then 16: no less than its time
            self.assertEqual(self.pledged(world, time), word)
            self.assertEqual(world.seen_house(1).ledger().pledge_of(0) is not None, is_pledged)

    def test_pledged_only_above_the_last_stamp(self):
        for time, word in ((12, "off"), (13, "asked")):
            world = world_of(drift=(1, 10))
            world.tick(10)
            sure = wrote(world, {"b": (1,)})
            deliver_all(world)
            self.assertEqual(world.seen_house(1).ledger().last_stamp()[0], 12)
            world.set_clock(0, 0)
            world.set_clock(1, 0)
            self.assertEqual(self.pledged(world, time), word)
            self.assertEqual(world.word(sure), "asked")

    def test_off_where_its_stamp_comes_to_its_time(self):
        world = world_of()
        dealing = form_ahead(world, 5, 2)
        world.finish(dealing)
        deliver_those(world, (0, 1))
        world.tick(5)
        self.assertEqual(world.deliver(2), 1)
        self.assertEqual(world.word(dealing), "off")
        deliver_all(world)
        self.assertEqual(words_at(world, dealing), ["off", "off"])

    def test_other_keys_do_not_matter(self):
        world = world_of()
        dealing = form_ahead(world, 20, 2)
        world.take(dealing, "a", "write")
        world.write(dealing, "a", (1, 2, 3))
        done(world, dealing)
        self.assertEqual(world.history()[0][6], [("a", (1, 2, 3))])

    def test_what_waits_while_one_is_pledged(self):
        world = world_of()
        sure_of(world, {"a": (1,)})
        form = form_ahead(world, 10, 2)
        world.finish(form)
        deliver_all(world)
        world.tick(14)
        # the form's own pledge has a lesser stamp still
        self.refused(world, Waits, lambda: read_at(world, 12, ["a"]), time=1)
        self.refused(world, Waits, lambda: read_at(world, 10, ["a"]), time=1)
        late = wrote(world, {"a": (5,)})
        number = max(world.letters())
        self.refused(world, Waits, lambda: world.deliver(number), time=10)
        self.assertIn(number, world.letters())
        told = told_at_last_of(world, form)
        self.assertEqual(told[0], 1)
        self.assertEqual(world.deliver(number), 0)
        self.assertEqual(read_at(world, 11, ["a"]), {"a": (1, 0)})
        self.assertEqual(told_at_last(world, late)[0], 15)

    def test_a_time_below_is_served_meanwhile(self):
        world = world_of()
        form = form_ahead(world, 30, 2)
        world.finish(form)
        deliver_all(world)
        world.tick(5)
        dealing = wrote(world, {"a": (5,)})
        deliver_all(world)
        world.tick()
        self.assertEqual(world.tell(dealing)[0], 5)
        self.assertEqual(world.word(form), "asked")

    def test_of_like_times_the_one_done_last(self):
        world = world_of()
        sure_of(world, {"a": (1, 2, 3)})
        done(world, form_ahead(world, 20, 4))
        done(world, form_ahead(world, 20, 1))
        world.tick(20)
        self.assertEqual(read_at(world, 20, ["a"]), {"a": (1,)})

    def test_pledged_it_is_kept_by_a_new_reign(self):
        world = world_of(1)
        form = form_ahead(world, 5000, 2)
        world.finish(form)
        deliver_all(world)
        reign_anew(world)
        self.assertEqual(world.seen_house(0).holds().of(form), {"*": "write"})
        self.raised(Off, lambda: form_ahead(world, 6000, 2), dealing=1)


def told_at_last_of(world, dealing):
    """As told, but only letters that say done are delivered."""
    stamp = world.tell(dealing)
    for number, letter in world.letters().items():
        if letter[0] == "done":
            world.deliver(number)
    return stamp


class Beside(WorldCase):
    def test_begin_more_read_and_put_in_house(self):
        world = world_of()
        sure_of(world, {"a": (1,)})
        dealing = world.begin_more(more=("move", "a", 1))
        self.assertEqual((dealing, world.word(dealing), world.age_of(dealing)), (1, "open", 1))
        world.take_at(dealing, 0, "a", "write")
        world.take_at(dealing, 1, "a", "write", coming=True)
        self.assertEqual(world.read_in_house(dealing=dealing, house=0, key="a"), (1,))
        self.assertIsNone(world.put_in_house(dealing=dealing, house=1, key="a", worth=(2,)))
        world.finish(dealing)
        self.assertEqual([letter[4] for letter in world.letters().values()], [
            ((0, 1), 1, ("a",), (), ("move", "a", 1)), ((0, 1), 1, (), (("a", (2,)),), ("move", "a", 1))])


if __name__ == "__main__":
    unittest.main()
