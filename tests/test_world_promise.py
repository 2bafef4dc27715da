"""The promise (3), for worlds that are driven by drawn deeds: clocks drift, letters come late, doubled or never."""

import random
import unittest

from stampedwait.errors import Early, Gone, NoHead, Waits
from stampedwait.histories import is_ordered, order_of
from stampedwait.ledgers import shaped
from stampedwait.settling import settle
from stampedwait.snapshots import read_at
from tests.drawn import KEYS, Drawer


def rows_of(world, *words):
    return [row for row in world.history() if row[0] in words]


def by_stamps(world):
    return sorted(rows_of(world, "dealing"), key=lambda row: row[4])


class Promise(unittest.TestCase):
    def drive(self, chance, steps):
        drawer = Drawer(chance)
        self.lows = {}
        for step in range(steps):
            was = self.decided(drawer.world)
            drawer.step()
            self.check_clocks(drawer)
            self.check_heads(drawer.world)
            self.check_waiting(drawer.world)
            for dealing in self.decided(drawer.world):
                if dealing not in was and chance.randrange(2) == 0:
                    self.check_telling(drawer.world, dealing)
        return drawer

    def decided(self, world):
        """Those that are sure at their homes and not told yet."""
        ledgers = [world.seen_house(house).ledger() for house in range(world.houses())]
        return [dealing for ledger in ledgers for dealing in ledger.pending() if ledger.word(dealing) == "sure"]

    def check_clocks(self, drawer):
        world = drawer.world
        for house in range(world.houses()):
            copies = world.seen_house(house).copies()
            for copy in range(len(copies)):
                low, high = copies.clock(copy).bounds()
                self.assertTrue(low <= world.true_now() <= high)
                self.assertLessEqual(self.lows.get((house, copy), low), low)
                self.lows[(house, copy)] = low

    def check_heads(self, world):
        for house in range(world.houses()):
            copies = world.seen_house(house).copies()
            self.assertLessEqual(len(copies.heads()), 1)
            whole = copies.book()
            for copy in range(len(copies)):
                own = copies.book(copy)
                self.assertEqual(whole[:len(own)], own)

    def check_waiting(self, world):
        pledged = {dealing for house in range(world.houses()) for dealing in world.seen_house(house).holds().pledged()}
        for dealing, others in world.waiting().items():
            self.assertEqual(world.word(dealing), "open")
            self.assertNotIn(dealing, pledged)
            for other in others:
                elder = (world.age_of(other), other) < (world.age_of(dealing), dealing)
                self.assertTrue(elder or other in pledged)

    def check_telling(self, world, dealing):
        """Asked at each tick it is told within the longest wait."""
        decided = world.true_now()
        while True:
            try:
                world.tell(dealing)
            except Waits:
                self.assertLess(world.true_now() - decided, world.told_wait())
                world.tick()
                continue
            except NoHead:
                return
            self.assertLessEqual(world.true_now() - decided, world.told_wait())
            self.told += 1
            return

    def check_order(self, world):
        rows = by_stamps(world)
        self.assertIs(is_ordered(world.history()), True)
        self.assertEqual(order_of(world.history()), [row[1] for row in rows])
        self.assertEqual(len({row[4] for row in rows}), len(rows))
        for first in rows:
            self.assertLessEqual(first[2], first[3])
            for other in rows:
                if first[3] <= other[2]:
                    self.assertLess(first[4], other[4])
        worths = {}
        for row in rows:
            for key, worth in row[5]:
                self.assertEqual(worth, worths.get(key))
            worths.update(dict(row[6]))

    def check_reads(self, world):
        rows = by_stamps(world)
        forms = rows_of(world, "form")
        for word, asked, time, key, worth in rows_of(world, "read", "now"):
            wanted = None
            for row in rows:
                if row[4][0] <= time:
                    wanted = dict(row[6]).get(key, wanted)
            ruling = sorted([form for form in forms if form[1] <= time], key=lambda form: form[1])
            self.assertEqual(worth, shaped(wanted, ruling[-1][2] if ruling else None))
            if word == "now":
                self.assertFalse([row for row in rows if row[3] <= asked and row[4][0] > time])

    def check_reads_again(self, world):
        for word, asked, time, key, worth in rows_of(world, "read", "now"):
            for copy in [None] + list(range(len(world.seen_house(0).copies()))):
                try:
                    self.assertEqual(read_at(world, time, [key], copy=copy), {key: worth})
                except (Gone, Early, NoHead, Waits):
                    continue

    def check_settled(self, world):
        self.assertLessEqual(settle(world), 20)
        ledgers = [world.seen_house(house).ledger() for house in range(world.houses())]
        for ledger in ledgers:
            self.assertEqual(ledger.pending(), [])
        sure = [row[1] for row in rows_of(world, "dealing")]
        for dealing in range(len(world)):
            words = {ledger.word(dealing) for ledger in ledgers} - {None}
            if dealing in sure:
                self.assertEqual((world.word(dealing), words), ("sure", {"done"}))
            else:
                self.assertEqual(world.word(dealing), "off")
                self.assertLessEqual(words, {"off"})

    def check_places(self, world):
        ledgers = [world.seen_house(house).ledger() for house in range(world.houses())]
        times = {row[4][0] for row in rows_of(world, "dealing")} | {row[1] for row in rows_of(world, "form")}
        for time in times | {time - 1 for time in times} | {-1}:
            for key in KEYS:
                at = [house for house, ledger in enumerate(ledgers) if ledger.house_at(key, time) == house]
                self.assertEqual(len(at), 1)
            self.assertEqual(len({ledger.fields_at(time) for ledger in ledgers}), 1)

    def test_for_rows_of_deeds(self):
        chance = random.Random(11)
        self.told = 0
        worlds = []
        for run in range(60):
            world = self.drive(chance, 180).world
            self.check_order(world)
            self.check_reads(world)
            self.check_settled(world)
            for check in (self.check_order, self.check_reads, self.check_places, self.check_reads_again):
                check(world)
            worlds.append(world)
        # the runs are not idle
        self.assertGreater(self.told, 30)
        self.assertGreater(sum([len(rows_of(world, "dealing")) for world in worlds]), 90)
        self.assertGreater(sum([len(rows_of(world, "form")) for world in worlds]), 5)
        self.assertGreater(len([row for world in worlds for row in rows_of(world, "read", "now") if row[4]]), 60)


if __name__ == "__main__":
    unittest.main()
