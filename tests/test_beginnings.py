"""Promises [28] and [29]: floorward/beginnings.py."""

import itertools
import unittest

from floorward.averages import Average
from floorward.beginnings import Power, Share, too_low
from floorward.errors import BadBeginning
from floorward.numbers import root
from tests.plain import HUGE
from tests.wrong import NO_INTEGERS


def plain_at(beginning, n, k):
    """The start of [28]."""
    if isinstance(beginning, Share):
        return n // beginning.by + beginning.more
    u = 0
    while n >= 2 ** (k * u):
        u += 1
    return 2 ** (u + beginning.more) if u + beginning.more >= 0 else 1


def is_too_low(beginning, n, k):
    return plain_at(beginning, n, k) < root(n, k) or plain_at(beginning, n, k) < 1


class ShareTest(unittest.TestCase):
    def wrong(self, word, *parts, **named):
        with self.assertRaises(BadBeginning) as caught:
            Share(*parts, **named)
        self.assertEqual(vars(caught.exception), {"word": word}, (parts, named))

    def test_by_place_and_by_name(self):
        for share in (Share(3, 2), Share(3, more=2), Share(more=2, by=3)):
            self.assertEqual((share.by, share.more), (3, 2))
            self.assertEqual(share.at(10, 2), 5)
            self.assertEqual(share.at(k=2, n=10), 5)
            self.assertEqual(share.at(10, k=4), 5)

    def test_exactly_the_possible_parts(self):
        for by in range(-2, 103):
            for more in (-1, 0, 1, 50, 99, 100):
                if 1 <= by <= 99 and 0 <= more <= 99:
                    self.assertEqual((Share(by, more).by, Share(by, more).more), (by, more))
                else:
                    self.wrong("more" if 1 <= by <= 99 else "by", by, more)

    def test_each_part_wrong_alone_and_both_at_once(self):
        for bad in NO_INTEGERS + (-1, 100, 10 ** 30000, -10 ** 30000):
            self.wrong("by", bad, 5)
            self.wrong("more", 5, bad)
            self.wrong("more", more=bad, by=5)
            for worse in (None, True, 100, -1, "5"):
                self.wrong("by", bad, worse)
                self.wrong("by", more=worse, by=bad)
        self.wrong("by", 0, 0)
        self.assertEqual(Share(1, 0).more, 0)

    def test_at(self):
        for by, more in itertools.product((1, 2, 3, 7, 98, 99), (0, 1, 2, 50, 99)):
            for n in (1, 2, 3, 6, 7, 97, 98, 99, 100, 10 ** 6, 10 ** 90 + 1, HUGE):
                for k in (2, 3, 4):
                    self.assertEqual(Share(by, more).at(n, k), n // by + more)

    def test_equality(self):
        share = Share(3, 2)
        self.assertTrue(share == Share(3, 2) and not share != Share(3, 2))
        for other in (Share(2, 2), Share(3, 3), Share(2, 3), Power(2), Power(3), None, (3, 2), [3, 2], 3, "share 3 2",
                      Share, object()):
            self.assertFalse(share == other)
            self.assertTrue(share != other)


class PowerTest(unittest.TestCase):
    def wrong(self, *parts, **named):
        with self.assertRaises(BadBeginning) as caught:
            Power(*parts, **named)
        self.assertEqual(vars(caught.exception), {"word": "more"})

    def test_by_place_and_by_name(self):
        for beginning in (Power(1), Power(more=1)):
            self.assertEqual(beginning.more, 1)
            self.assertEqual(beginning.at(10, 2), 8)
            self.assertEqual(beginning.at(k=2, n=10), 8)
            self.assertEqual(beginning.at(10, k=4), 4)

    def test_exactly_the_possible_parts(self):
        for more in range(-12, 13):
            if -9 <= more <= 9:
                self.assertEqual(Power(more).more, more)
            else:
                self.wrong(more)
        for bad in NO_INTEGERS + (10 ** 30000, -10 ** 30000):
            self.wrong(bad)
            self.wrong(more=bad)

    def test_at_all_small_numbers(self):
        for more in range(-9, 10):
            for k in (2, 3, 4):
                for n in range(1, 600):
                    self.assertEqual(Power(more).at(n, k), plain_at(Power(more), n, k), (more, n, k))

    def test_at_beside_powers_of_two(self):
        for more, k, u in itertools.product((-9, -3, -1, 0, 1, 9), (2, 3, 4), (*range(1, 14), 400)):
            for n in (2 ** (k * u) - 1, 2 ** (k * u), 2 ** (k * u) + 1):
                self.assertEqual(Power(more).at(n, k), plain_at(Power(more), n, k), (more, n, k))

    def test_at_1_and_below_0(self):
        # For 1 the least u is 1.
        self.assertEqual([Power(more).at(1, 2) for more in (-9, -2, -1, 0, 1, 9)], [1, 1, 1, 2, 4, 1024])
        self.assertEqual([Power(-9).at(2 ** (2 * u) - 1, 2) for u in (1, 8, 9, 10, 11)], [1, 1, 1, 2, 4])

    def test_thirty_thousand_figures(self):
        for k in (2, 3, 4):
            start = Power(0).at(HUGE, k)
            self.assertTrue(start ** k > HUGE >= (start // 2) ** k)
            self.assertEqual(start, 2 ** (start.bit_length() - 1))
            self.assertEqual(Power(9).at(HUGE, k), 512 * start)
            self.assertEqual(Power(-9).at(HUGE, k), start // 512)

    def test_equality(self):
        beginning = Power(2)
        self.assertTrue(beginning == Power(2) and not beginning != Power(2))
        for other in (Power(-2), Power(3), Share(2, 2), Share(1, 2), None, (2,), 2, "power 2", Power, object()):
            self.assertFalse(beginning == other)
            self.assertTrue(beginning != other)


class TooLowTest(unittest.TestCase):
    def check(self, beginning, k, most=2500):
        found = too_low(beginning, k)
        if found is None or found < most:
            least = next((n for n in range(1, most) if is_too_low(beginning, n, k)), None)
            self.assertEqual(found, least, (vars(beginning), k))
        return found

    def test_by_place_and_by_name(self):
        self.assertEqual(too_low(Share(9, 1), 2), 4)
        self.assertEqual(too_low(k=2, beginning=Share(9, 1)), 4)
        self.assertEqual(too_low(Share(9, 1), k=2), 4)
        self.assertIsNone(too_low(k=2, beginning=Power(0)))

    def test_powers(self):
        for more, k in itertools.product(range(-9, 10), (2, 3, 4)):
            found = self.check(Power(more), k)
            self.assertEqual(found, None if more >= 0 else 3 ** k if more == -1 else 2 ** k)

    def test_shares_below_1(self):
        for by, k in itertools.product(range(2, 100), (2, 3, 4)):
            self.assertEqual(self.check(Share(by, 0), k, 40), 1)
        for k in (2, 3, 4):
            self.assertIsNone(self.check(Share(1, 0), k))

    def test_shares_with_small_numbers(self):
        for by, more, k in itertools.product((1, 2, 3, 4, 5, 8, 9, 13, 20, 50), range(1, 8), (2, 3, 4)):
            self.check(Share(by, more), k, 400)

    def test_all_shares_against_the_first_number_of_each_root(self):
        for by, more, k in itertools.product(range(1, 100), range(100), (2, 3, 4)):
            firsts = [r ** k for r in range(1, by + 2) if r ** k // by + more < r]
            self.assertEqual(too_low(Share(by, more), k), firsts[0] if firsts else None, (by, more, k))

    def test_far_first_numbers(self):
        for by, more, k, wanted in ((99, 24, 2, 41 ** 2), (98, 23, 2, 37 ** 2), (98, 24, 2, 43 ** 2),
                                    (97, 24, 2, 44 ** 2), (99, 3, 3, 4 ** 3), (99, 2, 4, 3 ** 4), (99, 25, 2, None),
                                    (99, 10, 3, None)):
            self.assertEqual(self.check(Share(by, more), k), wanted)

    def test_none_holds_for_numbers_of_many_figures(self):
        nones = [(beginning, k) for k in (2, 3, 4)
                 for beginning in (Power(0), Power(9), Share(1, 0), Share(99, 25), Share(99, 99), Share(4, 2))
                 if too_low(beginning, k) is None]
        self.assertEqual(len(nones), 18)
        for beginning, k in nones:
            for r in (97, 98, 99, 100, 1000, 2 ** 70 - 1, 2 ** 70, 10 ** 60 + 1, root(HUGE, k)):
                for n in (r ** k, (r + 1) ** k - 1):
                    self.assertGreaterEqual(beginning.at(n, k), max(1, root(n, k)))

    def test_a_run_from_what_is_never_too_low(self):
        loop = Average(2, 1, 1, 0, "notless")
        for beginning in (Power(0), Share(4, 2)):
            for n in range(1, 300):
                self.assertEqual(loop.run(n, beginning.at(n, 2)).told, root(n, 2))


if __name__ == "__main__":
    unittest.main()
