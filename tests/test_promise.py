"""The promise, for houses that a driver leads by chance: clocks drift, letters come late, doubled or never."""

import random
import unittest

from stampedwait.ledgers import shaped
from tests.driver import KEYS, Driver


class Promise(unittest.TestCase):
    def run_once(self, chance):
        driver = Driver(chance)
        self.lows = {}
        for step in range(220):
            driver.deed()
            self.check_clocks(driver)
            self.check_heads(driver)
            self.check_waiting(driver)
        driver.settle()
        self.check_settled(driver)
        self.check_places(driver)
        self.check_order(driver)
        self.check_reads(driver)
        return driver

    def check_clocks(self, driver):
        for house in driver.houses:
            copies = house.copies()
            for copy in range(len(copies)):
                low, high = copies.clock(copy).bounds()
                self.assertTrue(low <= driver.true <= high)
                self.assertLessEqual(self.lows.get((house.number(), copy), low), low)
                self.lows[(house.number(), copy)] = low

    def check_heads(self, driver):
        for house in driver.houses:
            copies = house.copies()
            self.assertLessEqual(len(copies.heads()), 1)
            whole = copies.book()
            for copy in range(len(copies)):
                own = copies.book(copy)
                self.assertEqual(whole[:len(own)], own)

    def check_waiting(self, driver):
        for house in driver.houses:
            holds = house.holds()
            for dealing, others in holds.waiting().items():
                self.assertNotIn(dealing, holds.pledged())
                for other in others:
                    self.assertTrue(other < dealing or other in holds.pledged())

    def check_settled(self, driver):
        for house in driver.houses:
            self.assertEqual(house.ledger().pending(), [])
        for deal in driver.deals:
            words = [driver.houses[number].ledger().word(deal.number) for number in deal.reigns]
            if deal.word == "sure":
                self.assertEqual(set(words), {"done"})
            else:
                self.assertNotIn("done", words)

    def check_places(self, driver):
        ledgers = [house.ledger() for house in driver.houses]
        stamps = [deal.stamp[0] for deal in driver.deals if deal.stamp is not None]
        for time in [-1] + stamps + [stamp - 1 for stamp in stamps]:
            for key in KEYS:
                at = [house for house, ledger in enumerate(ledgers) if ledger.house_at(key, time) == house]
                self.assertEqual(len(at), 1)
            self.assertEqual(len({ledger.fields_at(time) for ledger in ledgers}), 1)

    def check_order(self, driver):
        sure = [deal for deal in driver.deals if deal.word == "sure"]
        stamps = [deal.stamp for deal in sure]
        self.assertEqual(len(stamps), len(set(stamps)))
        for first in sure:
            for other in sure:
                if first.told <= other.begun:
                    self.assertLess(first.stamp, other.stamp)
        worths = {}
        for deal in sorted(sure, key=lambda each: each.stamp):
            for key, worth in deal.reads:
                self.assertEqual(worth, worths.get(key))
            worths.update(deal.written())

    def check_reads(self, driver):
        sure = sorted([deal for deal in driver.deals if deal.word == "sure"], key=lambda each: each.stamp)
        for word, asked, time, key, worth in driver.reads:
            wanted = None
            for deal in sure:
                if deal.stamp[0] <= time:
                    wanted = deal.written().get(key, wanted)
            forms = [deal.more[1:] for deal in sure if deal.more and deal.more[0] == "form" and deal.more[1] <= time]
            fields = sorted(forms, key=lambda form: form[0])[-1][1] if forms else None
            self.assertEqual(worth, shaped(wanted, fields))
            if word == "now":
                self.assertFalse([deal for deal in sure if deal.told <= asked and deal.stamp[0] > time])

    def test_for_rows_of_deeds(self):
        chance = random.Random(3)
        drivers = [self.run_once(chance) for run in range(80)]
        sure = [deal for driver in drivers for deal in driver.deals if deal.word == "sure"]
        # the runs are not idle
        self.assertGreater(len(sure), 150)
        self.assertGreater(len([deal for deal in sure if deal.more]), 10)
        self.assertGreater(len([read for driver in drivers for read in driver.reads if read[4]]), 20)


if __name__ == "__main__":
    unittest.main()
