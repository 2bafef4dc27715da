import unittest
from fractions import Fraction
from math import gcd

from stampedwait.errors import NoNumber
from stampedwait.times import (
    WHOLE, is_drift, is_share, is_stamp, is_whole, least_passed, most_passed)
from tests.things import BIG, ODD

DRIFTS = [(0, 1), (1, 100), (999, 1000), (1, 2), (1, 3), (2, 3), (1, 1000), (99, 100), (7, 9)]
COUNTS = list(range(0, 40)) + [99, 100, 101, 999, 1000, 1001, 12345, 10 ** 29, BIG - 1, BIG]


class Kinds(unittest.TestCase):
    def test_whole(self):
        for number in (0, 1, -1, 7, -1000, BIG, -BIG):
            self.assertIs(is_whole(number), True)
        for thing in ODD + ["1", (1,), [1], (1, 1), (1, 2, 3)]:
            self.assertIs(is_whole(thing), False)

    def test_whole_is_the_share_of_all(self):
        self.assertEqual(WHOLE, (1, 1))
        self.assertIs(is_share(WHOLE), True)

    def test_share(self):
        for share in [(0, 1), (1, 1), (1, 2), (2, 3), (1, 1000), (999, 1000), (500, 999)]:
            self.assertIs(is_share(share), True, share)
        for thing in ODD + [
                (0, 2), (0, 1000), (2, 2), (2, 4), (6, 9), (500, 1000), (1000, 1000),
                (0, 0), (1, 0), (0, -1), (-1, 1), (-1, 2), (-1, -2), (1, -2), (2, 1), (3, 2),
                (1, 1001), (1000, 1001), (1001, 1001), (1, BIG), (BIG, BIG), (BIG, 1), (-BIG, 1),
                (BIG - 1, BIG), 1, 0, "(0, 1)", [0, 1], [1, 1], [1, 2], (0,), (1,), (0, 1, 1),
                (1, 1, 1), (False, 1), (0, True), (True, True), (True, 2), ("0", "1"), (0, None)]:
            self.assertIs(is_share(thing), False)

    def test_shares_are_those_in_lowest_terms(self):
        for bottom in (*range(0, 31), 360, 997, 999, 1000, 1001):
            for top in range(-2, bottom + 3):
                right = 1 <= bottom <= 1000 and 0 <= top <= bottom and gcd(top, bottom) == 1
                self.assertIs(is_share((top, bottom)), right)

    def test_drift_is_a_share_below_the_whole(self):
        self.assertIs(is_drift((1, 1)), False)
        for drift in DRIFTS:
            self.assertIs(is_drift(drift), True)
        for thing in ODD + [
                (0, 2), (2, 4), (2, 1), (-1, 2), (1, 1001), (1, 0), [0, 1], [1, 100], (1, 1, 1),
                (0, True), (1,), 0, 1, BIG, (BIG, BIG)]:
            self.assertIs(is_drift(thing), False)

    def test_stamp(self):
        for stamp in [(0, 0, 0), (-1, 0, 0), (5, 1, 2), (-BIG, BIG, BIG), (BIG, 0, 0)]:
            self.assertIs(is_stamp(stamp), True)
        for thing in ODD + [
                (0, -1, 0), (0, 0, -1), (0, -BIG, 0), (0, 0), (0,), (0, 0, 0, 0), [0, 0, 0],
                (True, 0, 0), (0, True, 0), (0, 0, False), ("0", 0, 0), (0, None, 0),
                (0, 0, [0]), ((0, 0, 0),), "000", 0, BIG]:
            self.assertIs(is_stamp(thing), False)

    def test_by_names(self):
        self.assertIs(is_whole(thing=1), True)
        self.assertIs(is_share(thing=(1, 1)), True)
        self.assertIs(is_drift(thing=(1, 2)), True)
        self.assertIs(is_stamp(thing=(1, 2, 3)), True)


class Passed(unittest.TestCase):
    def test_least_is_the_least(self):
        for drift in DRIFTS:
            pace = 1 + Fraction(*drift)
            for ticks in COUNTS:
                passed = least_passed(ticks, drift)
                self.assertTrue(is_whole(passed))
                self.assertGreaterEqual(passed, 0)
                self.assertGreaterEqual(passed * pace, ticks)
                self.assertLess((passed - 1) * pace, ticks)

    def test_most_is_the_greatest(self):
        for drift in DRIFTS:
            pace = 1 - Fraction(*drift)
            for ticks in COUNTS:
                passed = most_passed(ticks, drift)
                self.assertTrue(is_whole(passed))
                self.assertLess(passed * pace, ticks + 1)
                self.assertGreaterEqual((passed + 1) * pace, ticks + 1)

    def test_some_by_hand(self):
        rows = [
            (0, (0, 1), 0, 0), (1, (0, 1), 1, 1), (17, (0, 1), 17, 17), (BIG, (0, 1), BIG, BIG),
            (0, (1, 100), 0, 1), (1, (1, 100), 1, 2), (100, (1, 100), 100, 102),
            (101, (1, 100), 100, 103), (102, (1, 100), 101, 104), (98, (1, 100), 98, 99),
            (0, (999, 1000), 0, 999), (1, (999, 1000), 1, 1999), (2, (999, 1000), 2, 2999),
            (1999, (999, 1000), 1000, 1999999), (0, (1, 2), 0, 1), (3, (1, 2), 2, 7),
            (4, (1, 2), 3, 9)]
        for ticks, drift, least, most in rows:
            self.assertEqual(least_passed(ticks, drift), least, (ticks, drift))
            self.assertEqual(most_passed(ticks, drift), most, (ticks, drift))

    def test_by_names(self):
        self.assertEqual(least_passed(ticks=101, drift=(1, 100)), 100)
        self.assertEqual(most_passed(drift=(1, 100), ticks=101), 103)

    def test_what_is_no_number_from_0_on_is_refused(self):
        for thing in ODD + [-1, -2, -BIG, "5", [5], (5,), (1, 2, 3), (0, 1)]:
            for drift in DRIFTS[:3]:
                with self.assertRaises(NoNumber):
                    least_passed(thing, drift)
                with self.assertRaises(NoNumber):
                    most_passed(thing, drift)

    def test_true_ticks_lie_between(self):
        for drift in [(0, 1), (1, 100), (1, 3), (999, 1000)]:
            for pace in (1 - Fraction(*drift), Fraction(1), 1 + Fraction(*drift)):
                for passed in range(0, 300):
                    ticks = int(passed * pace)
                    self.assertLessEqual(least_passed(ticks, drift), passed)
                    self.assertGreaterEqual(most_passed(ticks, drift), passed)


if __name__ == "__main__":
    unittest.main()
