"""Promises [26] and [27]: floorward/backs.py."""

import itertools
import unittest

from floorward.averages import Average
from floorward.backs import right_starts, told_back
from floorward.errors import BadGuesses, BadNumber, BadPower, BadStart
from floorward.numbers import root
from tests.plain import HUGE, MENDS, all_ends, all_steps, plain_root, plain_run, plain_step, some_loops
from tests.wrong import NO_INTEGERS, NO_NUMBERS, NO_STARTS

KNOWN = Average(2, 1, 1, 0, "notless")


def plain_stretches(loop, n, most):
    """The stretches of right starts, found one by one: a stretch begins and ends where its neighbour is not right."""
    r = plain_root(n, loop.k)
    right = [start for start in range(1, most + 1) if plain_run(loop, n, start)[2] == r]
    firsts = [start for start in right if start - 1 not in right]
    lasts = [start for start in right if start + 1 not in right]
    return list(zip(firsts, lasts))


class RightStartsTest(unittest.TestCase):
    def check(self, loop, n, most):
        found = right_starts(loop, n, most)
        self.assertIs(type(found), list)
        self.assertTrue(all(type(pair) is tuple for pair in found))
        self.assertEqual(found, plain_stretches(loop, n, most), (loop.text(), n, most))
        return found

    def test_by_place_and_by_name(self):
        self.assertEqual(right_starts(KNOWN, 10, 20), [(3, 20)])
        self.assertEqual(right_starts(most=20, loop=KNOWN, n=10), [(3, 20)])
        self.assertEqual(right_starts(KNOWN, most=2, n=10), [])

    def test_all_right_and_none_right(self):
        held, swinging = Average(2, 1, 1, 0, "held"), Average(2, 1, 1, 0, "equal")
        self.assertEqual(self.check(held, 10, 500), [(1, 500)])
        self.assertEqual(self.check(held, 10, 1), [(1, 1)])
        self.assertEqual(self.check(swinging, 3, 500), [])
        self.assertEqual(self.check(KNOWN, 0, 500), [])
        self.assertEqual(self.check(Average(2, 1, 1, 0, "under"), 0, 500), [(1, 500)])

    def test_the_ends_500_and_1_are_looked_at(self):
        for n, wanted in ((499 ** 2, [(499, 500)]), (500 ** 2, [(500, 500)]), (501 ** 2 - 1, [(500, 500)]),
                          (501 ** 2, []), (1, [(1, 500)])):
            self.assertEqual(right_starts(KNOWN, n, 500), wanted)
        self.assertEqual(right_starts(Average(2, 1, 1, 0, "near2", "new", "both"), 5, 500), [(1, 500)])

    def test_starts_below_the_root(self):
        self.assertEqual(self.check(Average(2, 1, 1, 0, "equal"), 10, 9), [(1, 9)])
        self.assertEqual(self.check(Average(2, 1, 1, 0, "under", mend="up"), 90, 30), [(8, 30)])
        self.assertEqual(self.check(Average(2, 1, 1, 0, "near1", "less"), 80, 30), [(1, 4), (6, 9), (11, 14), (18, 27)])
        self.assertEqual(self.check(Average(3, 2, 1, -1, "near2", "less"), 700, 60), [(1, 6), (8, 60)])

    def test_every_stop_and_every_mend(self):
        several = 0
        for (stop, told), mend in itertools.product(all_ends(), MENDS):
            for parts in ((2, 1, 1, 0), (2, 3, 2, -3), (3, 2, 1, 3), (4, 3, 1, 1)):
                for n in (0, 3, 80, 700):
                    several += len(self.check(Average(*parts, stop, told, mend), n, 40)) > 1
        self.assertGreater(several, 20)

    def test_all_steps(self):
        for at, loop in enumerate(some_loops(53)):
            for n in (at % 5, 7 + at % 120, 1000 + 37 * at):
                self.check(loop, n, 50)

    def test_some_up_to_500(self):
        for at, loop in enumerate(some_loops(997)):
            self.check(loop, (5 + at) ** loop.k - at % 3, 500)
            self.check(loop, 10 ** 9 + at, 500)

    def test_the_list_is_a_new_one(self):
        right_starts(KNOWN, 10, 20).clear()
        self.assertEqual(right_starts(KNOWN, 10, 20), [(3, 20)])

    def test_great_numbers(self):
        self.assertEqual(right_starts(Average(2, 1, 1, 0, "held"), 10 ** 40 + 1, 500), [(1, 500)])
        self.assertEqual(right_starts(Average(4, 3, 1, 0, "equal"), 10 ** 60, 60), [(1, 60)])
        self.assertEqual(right_starts(KNOWN, 10 ** 40, 500), [])

    def test_thirty_thousand_figures(self):
        self.assertEqual(right_starts(KNOWN, HUGE, 500), [])
        self.assertEqual(right_starts(Average(3, 2, 1, 0, "under", mend="up"), HUGE, 500), [])

    def test_its_two_errors_in_their_order(self):
        for bad in NO_NUMBERS:
            for most in (20, 0, "x"):
                with self.assertRaises(BadNumber) as caught:
                    right_starts(KNOWN, bad, most)
                self.assertIs(caught.exception.value, bad)
        for bad in NO_STARTS:
            with self.assertRaises(BadStart) as caught:
                right_starts(KNOWN, 10, bad)
            self.assertIs(caught.exception.value, bad)
            with self.assertRaises(BadStart):
                right_starts(most=bad, n=10, loop=KNOWN)


def plain_told_back(k, n, guesses):
    """The tuples of [27], each possible d tried."""
    found = []
    for a, c in sorted({step[1:3] for step in all_steps() if step[0] == k}):
        leads = [d for d in range(-a, a + c + 1)
                 if all(plain_step(Average(k, a, c, d, "equal"), n, x) == y for x, y in zip(guesses, guesses[1:]))]
        if leads:
            found.append((a, c, leads[0], leads[-1]))
    return found


class ToldBackTest(unittest.TestCase):
    def check(self, k, n, guesses):
        found = told_back(k, n, guesses)
        self.assertIs(type(found), list)
        self.assertTrue(all(type(told) is tuple for told in found))
        self.assertEqual(found, plain_told_back(k, n, guesses), (k, n, guesses))
        return found

    def test_by_place_and_by_name(self):
        wanted = [(1, 1, 0, 0), (2, 2, 0, 1), (3, 3, 0, 2)]
        self.assertEqual(self.check(2, 100, [50, 26, 14, 10]), wanted)
        self.assertEqual(told_back(k=2, n=100, guesses=(50, 26, 14, 10)), wanted)
        self.assertEqual(told_back(guesses=[50, 26, 14, 10], n=100, k=2), wanted)
        self.assertEqual(told_back(2, guesses=[50, 26, 14, 10], n=100), wanted)
        self.check(2, 24, [9, 6, 5])

    def test_rows_of_runs_tell_their_own_weights(self):
        for k, a, c, d in all_steps():
            for n, start in ((10, 30), (399, 20), (80, 3), (1, 1), (10 ** 6, 1234)):
                guesses = plain_run(Average(k, a, c, d, "equal"), n, start)[0]
                if len(guesses) > 1 and 0 not in guesses:
                    found = self.check(k, n, list(guesses))
                    own = [told for told in found if told[:2] == (a, c)]
                    self.assertEqual(len(own), 1)
                    self.assertTrue(own[0][2] <= d <= own[0][3], (k, a, c, d, n, start))

    def test_each_d_from_the_least_to_the_greatest_leads_so_and_none_beside(self):
        ends = set()
        for k, n, guesses in ((2, 10, [5, 4]), (2, 10, [3, 3]), (3, 700, [20, 14, 10]), (4, 15, [1, 4]), (2, 8, [1, 9]),
                              (2, 10, [1, 5, 3]), (3, 7, [1, 3, 2, 1])):
            for a, c, least, greatest in told_back(k, n, guesses):
                for d in range(-a, a + c + 1):
                    loop = Average(k, a, c, d, "equal")
                    leads = all(plain_step(loop, n, x) == y for x, y in zip(guesses, guesses[1:]))
                    self.assertIs(leads, least <= d <= greatest, (k, n, guesses, a, c, d))
                ends |= {(least == -a, greatest == a + c)}
        self.assertGreaterEqual(ends, {(True, False), (False, True), (False, False)})

    def test_rows_with_one_guess_changed(self):
        fewer = 0
        for at, (k, a, c, d) in enumerate(all_steps()):
            guesses = plain_run(Average(k, a, c, d, "equal"), 5000 + at, 60)[0]
            for place in range(len(guesses)):
                for by in (-1, 1, 40):
                    changed = list(guesses)
                    changed[place] += by
                    if min(changed) >= 1 and len(changed) > 1:
                        found = [told[:2] for told in self.check(k, 5000 + at, changed)]
                        fewer += (a, c) not in found
        self.assertGreater(fewer, 100)

    def test_rows_that_no_weights_lead_along(self):
        for k, n, guesses in ((2, 10, [3, 10 ** 9]), (2, 10, [10 ** 9, 1]), (3, 10, [5, 3, 5]), (4, 0, [1, 9]),
                              (2, 10 ** 30, [1, 1])):
            self.assertEqual(self.check(k, n, guesses), [])

    def test_small_rows_of_every_kind(self):
        for k, n, row in itertools.product((2, 3, 4), (0, 1, 6, 17), itertools.product((1, 2, 3, 5), repeat=3)):
            self.check(k, n, row)

    def test_the_weights_stand_in_order(self):
        found = [told[:2] for told in told_back(2, 10, [3, 3])]
        self.assertEqual(found, sorted(found))
        self.assertEqual(found, [(1, 1), (2, 1), (2, 2), (3, 1), (3, 2), (3, 3), (4, 1), (4, 2), (5, 1)])
        self.assertEqual([told[:2] for told in told_back(3, 27, [3, 3])], [(2, 1), (3, 1), (4, 1), (4, 2), (5, 1)])
        self.assertEqual([told[:2] for told in told_back(4, 81, [3, 3])], [(3, 1), (4, 1), (5, 1)])

    def test_lists_and_tuples_stay_as_they_were(self):
        row = [50, 26, 14, 10]
        found = told_back(2, 100, row)
        self.assertEqual(row, [50, 26, 14, 10])
        self.assertEqual(told_back(2, 100, tuple(row)), found)
        kept = list(found)
        row.append(1)
        self.assertEqual(found, kept)
        found.clear()
        self.assertEqual(told_back(2, 100, [50, 26, 14, 10]), kept)

    def test_thirty_thousand_figures(self):
        start = root(HUGE, 3) << 40
        guesses = Average(3, 2, 1, 2, "notless").run(HUGE, start).guesses
        own = [told for told in told_back(3, HUGE, guesses) if told[:2] == (2, 1)]
        self.assertEqual(len(own), 1)
        self.assertTrue(own[0][2] <= 2 <= own[0][3])
        self.assertEqual(told_back(3, HUGE, guesses[:-1] + (HUGE,)), [])

    def test_its_three_errors_in_their_order(self):
        for bad in NO_INTEGERS + (-2, 0, 1, 5, 64, 10 ** 30000):
            for n, guesses in ((10, [3, 3]), (-1, [3, 3]), (10, []), (None, None)):
                with self.assertRaises(BadPower) as caught:
                    told_back(bad, n, guesses)
                self.assertIs(caught.exception.value, bad)
        for bad in NO_NUMBERS:
            for guesses in ([3, 3], [], None):
                with self.assertRaises(BadNumber) as caught:
                    told_back(2, bad, guesses)
                self.assertIs(caught.exception.value, bad)

    def test_bad_guesses(self):
        rows = [[], (), [3], (3,), [0, 1], [1, 0], [3, -1], [3, 3, 0]]
        rows += [[3, bad] for bad in NO_STARTS] + [(bad, 3) for bad in NO_STARTS] + [(3, bad, 3) for bad in NO_STARTS]
        for bad in rows + list(NO_STARTS) + [3, "33", b"33", {3: 3, 4: 4}, {3, 4}, range(3, 6), iter([3, 3])]:
            for k in (2, 3, 4):
                with self.assertRaises(BadGuesses) as caught:
                    told_back(k, 10, bad)
                self.assertEqual(vars(caught.exception), {})


if __name__ == "__main__":
    unittest.main()
