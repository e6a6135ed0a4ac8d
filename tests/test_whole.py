"""Promises [1] to [3]: the whole root of a number, told in each of the ways there are, is the same one."""

import math
import unittest

from floorward.averages import Average, tells
from floorward.beginnings import Power, Share, too_low
from floorward.halves import Halves, halves_tells
from floorward.led import Led
from floorward.numbers import rest, root
from floorward.sought import Sought
from floorward.steps import Steps, steps_tells
from floorward.texts import read_loop
from floorward.verdicts import is_right
from tests.plain import HUGE, all_halves, all_stepping, some_loops

BEGINNINGS = (Power(0), Power(1), Share(4, 3), Share(2, 1))
CLOSED = Halves(1, "upto", 0, 1, "less", "low", 0)
OPEN = Halves(0, "upto", 0, 0, "wide", "low", 0)
STEPS = Steps("upto", "half", 1, 0)
RIGHT = [loop for loop in some_loops(53) if is_right(loop)]


def led_to_the_end(led):
    while led.round() == "goes":
        pass
    return led.told


class OneRootTest(unittest.TestCase):
    def roots(self, n, k, loops):
        """The root in all ways; each beginning is looked at before it is used."""
        sought = Sought("root", k, n)
        top = Power(0).at(n, k)
        found = [root(n, k), sought.answer(), CLOSED.run(sought, 0, top).told, OPEN.run(sought, 0, top).told,
                 STEPS.run(sought, 0, top).told]
        for loop in loops:
            for beginning in [beginning for beginning in BEGINNINGS if too_low(beginning, k) is None]:
                start = beginning.at(n, k)
                # From n // 4 a number of many figures is too far away.
                if start < root(n, k) << 60:
                    found += [loop.run(n, start).told, led_to_the_end(Led(loop, n, start))]
            found += tells(loop, n)
        return found

    def test_there_are_right_loops_of_each_power_and_right_beginnings(self):
        self.assertEqual({loop.k for loop in RIGHT}, {2, 3, 4})
        self.assertGreater(len(RIGHT), 10)
        self.assertEqual([too_low(beginning, k) for beginning in BEGINNINGS for k in (2, 3, 4)], [None] * 12)
        self.assertEqual((halves_tells(CLOSED, "closed"), halves_tells(OPEN, "open"), steps_tells(STEPS)),
                         ((0,), (0,), (0,)))

    def test_all_small_numbers(self):
        for k in (2, 3, 4):
            loops = [loop for loop in RIGHT if loop.k == k][:4]
            r = 0
            for n in range(1, 300):
                if (r + 1) ** k <= n:
                    r += 1
                self.assertEqual(set(self.roots(n, k, loops)), {r}, (n, k))

    def test_numbers_beside_powers(self):
        for k in (2, 3, 4):
            loops = [loop for loop in RIGHT if loop.k == k]
            for r in (7, 99, 1024, 10 ** 20 + 7, 2 ** 100):
                self.assertEqual(set(self.roots(r ** k, k, loops)), {r})
                self.assertEqual(set(self.roots(r ** k - 1, k, loops)), {r - 1})

    def test_thirty_thousand_figures(self):
        loop = Average(4, 3, 1, 0, "notless")
        self.assertTrue(is_right(loop))
        r = root(HUGE, 4)
        start = Power(0).at(HUGE, 4)
        self.assertEqual(loop.run(HUGE, start).told, r)
        self.assertEqual(led_to_the_end(Led(loop, HUGE, start)), r)
        self.assertEqual(CLOSED.run(Sought("root", 4, HUGE), r - 2 ** 50, r + 2 ** 60).told, r)
        self.assertEqual(STEPS.run(Sought("root", 4, HUGE), r - 2 ** 50, 2 ** 50).told, r)
        self.assertEqual(HUGE - r ** 4, rest(HUGE, 4))

    def test_loops_that_are_read_are_as_right(self):
        for loop in RIGHT:
            self.assertIs(is_right(read_loop(loop.text())), True)
        for text in (CLOSED.text(), OPEN.text()):
            self.assertEqual(read_loop(text).run(Sought("root", 2, 99), 0, 50).told, math.isqrt(99))
        self.assertEqual(steps_tells(read_loop(STEPS.text())), (0,))

    def test_all_right_loops_with_two_ends_or_steps_tell_roots_shares_and_logarithms(self):
        closed = [halves for halves in all_halves() if halves_tells(halves, "closed") == (0,)]
        opened = [halves for halves in all_halves() if halves_tells(halves, "open") == (0,)]
        stepping = [steps for steps in all_stepping() if steps_tells(steps) == (0,)]
        for kind, by, n in (("root", 2, 10 ** 30), ("root", 3, 10 ** 30 - 1), ("root", 5, 7), ("share", 64, 10 ** 20),
                            ("share", 7, 6), ("log", 2, 10 ** 300), ("log", 10, 10 ** 300 - 1), ("log", 3, 81)):
            sought = Sought(kind, by, n)
            x = sought.answer()
            for lo, hi in ((x, x), (x, x + 1), (0, x), (0, x + 1), (0, 3 * x + 2), (x // 2, x + 5)):
                self.assertEqual([h.text() for h in closed if h.run(sought, lo, hi).told != x], [])
                if x < hi:
                    self.assertEqual([h.text() for h in opened if h.run(sought, lo, hi).told != x], [])
            p = 1 << x.bit_length()
            self.assertEqual([steps.run(sought, 0, p).told for steps in stepping], [x] * 3)


if __name__ == "__main__":
    unittest.main()
