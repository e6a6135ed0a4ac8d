"""Promises [16], [22] and [23], the examples of [37] and [38]: floorward/verdicts.py."""

import itertools
import unittest

from floorward.averages import Average, Run, tells
from floorward.errors import UnlikePowers, UnlikeSteps
from floorward.numbers import poly_value
from floorward.tables import table
from floorward.verdicts import Fault, Parting, alike, common_first, fault, is_right, parting, slower
from tests.plain import STOPS, all_ends, all_steps, plain_root, plain_run, plain_tells, some_loops

KNOWN = Average(2, 1, 1, 0, "notless")
HIGH_START = 14


def plain_bad_start(loop, n, most=HIGH_START):
    """The least start, up to `most` above the root, from which the run does not tell the root, or None."""
    r = plain_root(n, loop.k)
    return next((start for start in range(r, r + most + 1) if plain_run(loop, n, start)[2] != r), None)


def plain_length(loop, n, start):
    guesses, end, _, _ = plain_run(loop, n, start)
    return len(guesses) if end == "told" else float("inf")


def plain_slower_start(one, other, n):
    r = plain_root(n, one.k)
    return next((start for start in range(r, r + HIGH_START + 1)
                 if plain_length(one, n, start) > plain_length(other, n, start)), None)


def turning_numbers(k, r):
    """The numbers with the root r at which a quotient by a power of a guess near r becomes another."""
    numbers = {r ** k}
    for x in range(max(1, r - 6), r + 12):
        step = x ** (k - 1)
        numbers |= set(range(-(-r ** k // step) * step, (r + 1) ** k, step))
    return sorted(numbers)


class FaultTest(unittest.TestCase):
    def told(self, loop):
        found = fault(loop)
        self.assertIsInstance(found, Fault)
        self.assertIsInstance(found.course, Run)
        run = found.course
        return found.n, found.start, found.root, found.rest, run.guesses, run.end, run.told, run.ring

    def test_the_examples_that_are_right(self):
        for loop in (KNOWN, Average(2, 1, 1, 0, "back", "less"), Average(2, 1, 1, 1, "notless", mend="down")):
            self.assertIsNone(fault(loop))
            self.assertIs(is_right(loop), True)

    def test_the_examples_that_are_not(self):
        self.assertEqual(self.told(Average(2, 1, 1, 0, "equal")), (3, 1, 1, 2, (1, 2), "swings", None, (1, 2)))
        self.assertEqual(self.told(Average(2, 1, 1, 1, "notless")), (2, 2, 1, 1, (2,), "told", 2, ()))
        self.assertEqual(self.told(Average(3, 2, 1, 0, "equal")), (4, 1, 1, 3, (1, 2), "swings", None, (1, 2)))
        self.assertEqual(self.told(Average(3, 2, 1, 0, "back", "less")),
                         (7, 1, 1, 6, (1, 3, 2, 1), "swings", None, (3, 2, 1)))

    def test_other_faults(self):
        self.assertEqual(self.told(Average(2, 1, 1, -1, "back")), (1, 1, 1, 0, (1, 0), "nought", None, ()))
        self.assertEqual(self.told(Average(3, 5, 1, 5, "near2", "less", "both"))[:4], (1, 3, 1, 0))

    def test_by_place_and_by_name(self):
        loop = Average(2, 1, 1, 0, "equal")
        for found in (fault(loop), fault(loop=loop)):
            self.assertEqual((found.n, found.start, found.root, found.rest), (3, 1, 1, 2))
            self.assertEqual(found.course, loop.run(3, 1))
        self.assertIs(is_right(loop), False)
        self.assertIs(is_right(loop=loop), False)

    def test_the_least_number_and_the_least_start(self):
        for loop in some_loops(31):
            found = fault(loop)
            self.assertIs(is_right(loop), found is None)
            for n in range(1, 250 if found is None else found.n):
                self.assertIsNone(plain_bad_start(loop, n), (loop.text(), n))
            if found is not None:
                self.assertEqual(plain_bad_start(loop, found.n, 40), found.start, loop.text())
                self.assertEqual(found.root, plain_root(found.n, loop.k))
                self.assertEqual(found.rest, found.n - found.root ** loop.k)
                self.assertEqual(found.course, loop.run(found.n, found.start))

    def test_the_faults_of_the_greatest_numbers(self):
        loop = Average(4, 3, 1, -1, "held")
        self.assertEqual(self.told(loop), (4096, 9, 8, 0, (9, 7), "swings", None, (7,)))
        self.assertEqual([n for n in range(1, 4097) if plain_bad_start(loop, n, 6) is not None], [4096])
        loop = Average(4, 3, 1, -1, "under")
        self.assertEqual(self.told(loop), (625, 6, 5, 0, (6, 4), "told", 4, ()))
        self.assertEqual([n for n in range(1, 626) if plain_bad_start(loop, n) is not None], [625])

    def test_right_loops_tell_the_root(self):
        right = [loop for loop in some_loops(9) if is_right(loop)]
        self.assertGreater(len(right), 150)
        for loop in right:
            for r in (*range(1, 12), 40, 10 ** 15):
                for n in turning_numbers(loop.k, r)[::3]:
                    self.assertEqual(tells(loop, n), (r,), (loop.text(), n))
                    self.assertEqual(tells(loop, (r + 1) ** loop.k - 1), (r,), (loop.text(), r))

    def test_right_loops_for_each_small_number(self):
        for loop in (KNOWN, Average(2, 1, 1, 1, "notless", mend="down"), Average(3, 2, 1, -2, "near2", "new", "both"),
                     Average(3, 4, 2, 5, "equal", "new", "both"), Average(4, 5, 1, -5, "under", mend="up")):
            self.assertIs(is_right(loop), True)
            self.assertEqual([n for n in range(1, 3000) if tells(loop, n) != (plain_root(n, loop.k),)], [])

    def test_0_is_none_of_all_numbers(self):
        # For 0 all runs of this loop end as nought.
        self.assertEqual(tells(KNOWN, 0), ("nought",))
        self.assertEqual(plain_tells(KNOWN, 0, range(1, 9)), ("nought",))
        self.assertIs(is_right(KNOWN), True)


class PartingTest(unittest.TestCase):
    def check(self, one, other, most=400):
        found = parting(one, other)
        self.assertIs(alike(one, other), found is None)
        for n in range(1, most if found is None else min(most, found.n)):
            self.assertEqual(tells(one, n), tells(other, n), (one.text(), other.text(), n))
        if found is not None:
            self.assertIsInstance(found, Parting)
            self.assertEqual(found.tells, (tells(one, found.n), tells(other, found.n)))
            self.assertNotEqual(*found.tells)
        return found

    def test_a_loop_and_itself(self):
        for loop in some_loops(97):
            self.assertIsNone(parting(loop, loop))
            again = Average(loop.k, loop.a, loop.c, loop.d, loop.stop, loop.told, loop.mend)
            self.assertIs(alike(loop, again), True)

    def test_by_place_and_by_name(self):
        swinging = Average(2, 1, 1, 0, "equal")
        for found in (parting(KNOWN, swinging), parting(other=swinging, one=KNOWN)):
            self.assertEqual((found.n, found.tells), (3, ((1,), ("swings",))))
        self.assertEqual(parting(other=KNOWN, one=swinging).tells, (("swings",), (1,)))
        self.assertIs(alike(KNOWN, swinging), False)
        self.assertIs(alike(other=KNOWN, one=swinging), False)
        self.assertIs(alike(one=KNOWN, other=Average(2, 1, 1, 0, "back", "less")), True)

    def test_right_loops_are_alike(self):
        right = [loop for loop in some_loops(61) if is_right(loop)]
        for one, other in itertools.product(right, right):
            if one.k == other.k:
                self.assertIsNone(parting(one, other))

    def test_the_least_number(self):
        loops = some_loops(131)
        for one, other in zip(loops, loops[1:] + loops[:1]):
            if one.k == other.k:
                self.check(one, other)

    def test_loops_that_differ_in_one_part(self):
        nones = 0
        for one in some_loops(223):
            for stop, told in all_ends()[::3]:
                other = Average(one.k, one.a, one.c, one.d, stop, told, one.mend)
                nones += self.check(one, other, 40) is None
            for mend in ("none", "down", "up", "both"):
                other = Average(one.k, one.a, one.c, one.d, one.stop, one.told, mend)
                nones += self.check(one, other, 40) is None
        self.assertGreater(nones, 100)

    def test_a_great_number(self):
        one = Average(4, 5, 1, -5, "near2", "old", "up")
        other = Average(4, 5, 1, -5, "near2", "old", "none")
        found = self.check(one, other)
        self.assertEqual((found.n, found.tells), (21 ** 4, ((21, 22), (20, 21, 22))))
        for r in range(1, 21):
            for n in turning_numbers(4, r):
                self.assertEqual(tells(one, n), tells(other, n), n)
        self.assertEqual(plain_tells(one, found.n, range(21, 40)), (21, 22))
        self.assertEqual(plain_tells(other, found.n, range(21, 40)), (20, 21, 22))

    def test_the_cuts_of_both_stand_in_one_order_from_the_common_root_on(self):
        loops = [loop for loop in some_loops(401)]
        for one, other in itertools.product(loops[::2], loops[1::2]):
            if one.k == other.k:
                first = common_first(table(one), table(other))
                self.assertGreaterEqual(first, max(table(one)[0], table(other)[0]))
                cuts = table(one)[3] + table(other)[3]
                orders = []
                for r in (*range(first, first + 20), 10 ** 9):
                    values = [poly_value(cut, r) for cut in cuts]
                    orders.append([sorted(set(values)).index(value) for value in values])
                self.assertEqual([order for order in orders if order != orders[0]], [])

    def test_loops_of_two_powers(self):
        square, cubic = KNOWN, Average(3, 2, 1, 0, "notless")
        for call in (parting, alike):
            for one, other in ((square, cubic), (cubic, square), (cubic, Average(4, 3, 1, 0, "notless"))):
                with self.assertRaises(UnlikePowers):
                    call(one, other)
                with self.assertRaises(UnlikePowers):
                    call(other=one, one=other)


class SlowerTest(unittest.TestCase):
    def test_by_place_and_by_name(self):
        near = Average(2, 1, 1, 0, "near1")
        self.assertIsNone(slower(near, KNOWN))
        self.assertEqual(slower(KNOWN, near), (1, 2))
        self.assertEqual(slower(other=near, one=KNOWN), (1, 2))
        self.assertIs(type(slower(KNOWN, near)), tuple)
        self.assertEqual((plain_length(KNOWN, 1, 2), plain_length(near, 1, 2)), (2, 1))

    def test_a_loop_and_itself(self):
        for loop in some_loops(97):
            self.assertIsNone(slower(loop, loop))

    def test_endless_runs(self):
        swinging, back = Average(2, 1, 1, 0, "equal"), Average(2, 1, 1, 0, "back")
        self.assertEqual(slower(swinging, back), (3, 1))
        self.assertIsNone(slower(back, swinging))

    def test_runs_that_end_as_nought_are_endless(self):
        equal, back, under = [Average(2, 1, 1, -1, stop) for stop in ("equal", "back", "under")]
        for loop in (equal, back):
            self.assertEqual(plain_run(loop, 1, 1)[:2], ((1, 0), "nought"))
            self.assertEqual(slower(loop, under), (1, 1))
            self.assertIsNone(slower(under, loop))
        # All endless runs of one number are of one length, however many guesses they have.
        self.assertIsNone(slower(back, equal))

    def test_told_and_mend_do_not_matter(self):
        one, other = Average(3, 4, 1, 2, "back"), Average(3, 4, 1, 2, "notless")
        for told, mend in (("more", "up"), ("new", "both"), ("less", "down")):
            self.assertEqual(slower(Average(3, 4, 1, 2, "back", told, mend), other), slower(one, other))
            self.assertEqual(slower(one, Average(3, 4, 1, 2, "notless", told, mend)), slower(one, other))

    def test_the_least_number_and_the_least_start(self):
        nones = 0
        for step in all_steps()[::11]:
            for one, other in itertools.product([Average(*step, stop) for stop in STOPS], repeat=2):
                found = slower(one, other)
                nones += found is None
                for n in range(1, 60 if found is None else found[0]):
                    self.assertIsNone(plain_slower_start(one, other, n), (one.text(), other.text(), n))
                if found is not None:
                    self.assertEqual(plain_slower_start(one, other, found[0]), found[1], (one.text(), other.text()))
        self.assertGreater(nones, 200)

    def test_great_numbers_and_starts(self):
        one, other = Average(4, 3, 1, -1, "held"), Average(4, 3, 1, -1, "equal")
        self.assertEqual(slower(one, other), (4096, 9))
        self.assertEqual([n for n in range(1, 4097) if plain_slower_start(one, other, n) is not None], [4096])
        near1, near2 = Average(2, 5, 1, 6, "near1"), Average(2, 5, 1, 6, "near2")
        self.assertEqual(slower(near1, near2), (1, 13))

    def test_none_holds_for_great_numbers_too(self):
        for step in all_steps()[::13]:
            for one, other in itertools.product([Average(*step, stop) for stop in STOPS], repeat=2):
                if slower(one, other) is None:
                    for r in (9, 50):
                        for n in turning_numbers(one.k, r)[::7]:
                            for start in range(r, r + HIGH_START):
                                lengths = [self.length(loop, n, start) for loop in (one, other)]
                                self.assertLessEqual(*lengths, (one.text(), other.text(), n, start))

    def length(self, loop, n, start):
        run = loop.run(n, start)
        return len(run.guesses) if run.end == "told" else float("inf")

    def test_loops_with_other_steps(self):
        loop = Average(3, 4, 1, 2, "back")
        others = (Average(2, 4, 1, 2, "back"), Average(3, 3, 1, 2, "back"), Average(3, 4, 2, 2, "back"),
                  Average(3, 4, 1, 1, "back"), Average(4, 4, 1, 2, "back"))
        for other in others:
            with self.assertRaises(UnlikeSteps):
                slower(loop, other)
            with self.assertRaises(UnlikeSteps):
                slower(other=loop, one=other)


if __name__ == "__main__":
    unittest.main()
