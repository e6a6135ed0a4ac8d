"""Promises [4] and [9] to [15], the facts of [17], the examples of [37] and [38]: floorward/averages.py."""

import itertools
import math
import time
import unittest

from floorward.averages import Average, Run, near_steps, next_turn, tells
from floorward.errors import BadLoop, BadNumber, BadStart
from floorward.numbers import rest, root
from tests.plain import (HUGE, MENDS, STOPS, TELLINGS, all_ends, all_steps, plain_root, plain_run, plain_step,
                         plain_tells, some_loops)
from tests.wrong import NO_INTEGERS, NO_NUMBERS, NO_STARTS, NO_WORDS


def parts_of(loop):
    return loop.k, loop.a, loop.c, loop.d, loop.stop, loop.told, loop.mend


def four_of(run):
    return run.guesses, run.end, run.told, run.ring


class PartsTest(unittest.TestCase):
    def wrong(self, word, *parts, **named):
        with self.assertRaises(BadLoop) as caught:
            Average(*parts, **named)
        self.assertEqual(caught.exception.word, word, (parts, named))

    def test_exactly_the_possible_weights(self):
        possible = {step[:3] for step in all_steps()}
        self.assertEqual(len(possible), 17)
        for k, a, c in itertools.product(range(-1, 7), range(-1, 8), range(-1, 8)):
            if (k, a, c) in possible:
                loop = Average(k, a, c, 0, "equal")
                self.assertEqual(parts_of(loop), (k, a, c, 0, "equal", "old", "none"))
            else:
                word = "k" if k not in (2, 3, 4) else "c" if 1 <= a <= 5 else "a"
                self.wrong(word, k, a, c, 0, "equal")

    def test_exactly_the_possible_d(self):
        for k, a, c in {step[:3] for step in all_steps()}:
            for d in range(-a - 3, a + c + 4):
                if -a <= d <= a + c:
                    self.assertEqual(Average(k, a, c, d, "back").d, d)
                else:
                    self.wrong("d", k, a, c, d, "back")
            self.wrong("d", k, a, c, HUGE, "back")

    def test_exactly_the_possible_words(self):
        for stop, told, mend in itertools.product(STOPS, TELLINGS, MENDS):
            if (stop, told) in all_ends():
                self.assertEqual(parts_of(Average(3, 4, 2, -4, stop, told, mend)), (3, 4, 2, -4, stop, told, mend))
            else:
                self.wrong("told", 3, 4, 2, -4, stop, told, mend)

    def test_told_and_mend_may_be_left_out(self):
        self.assertEqual(parts_of(Average(2, 1, 1, 0, "held")), (2, 1, 1, 0, "held", "old", "none"))
        self.assertEqual(parts_of(Average(2, 1, 1, 0, "back", "more")), (2, 1, 1, 0, "back", "more", "none"))
        self.assertEqual(parts_of(Average(2, 1, 1, 0, "back", mend="up")), (2, 1, 1, 0, "back", "old", "up"))

    def test_by_names_in_any_order(self):
        loop = Average(mend="both", told="less", stop="near2", d=-1, c=1, a=2, k=3)
        self.assertEqual(loop, Average(3, 2, 1, -1, "near2", "less", "both"))

    def test_each_part_wrong_alone(self):
        right = (2, 3, 2, 1, "near1", "new", "down")
        for at, word in enumerate(("k", "a", "c", "d", "stop", "told", "mend")):
            for bad in NO_INTEGERS + (-10, 10 ** 30000) if at < 4 else NO_WORDS:
                self.wrong(word, *right[:at], bad, *right[at + 1:])

    def test_several_wrong_the_first_is_told(self):
        words = ("k", "a", "c", "d", "stop", "told", "mend")
        right = (2, 3, 2, 1, "near1", "new", "down")
        for wrong in itertools.product((False, True), repeat=7):
            if any(wrong):
                parts = [None if bad else part for bad, part in zip(wrong, right)]
                self.wrong(words[wrong.index(True)], *parts)
                self.wrong(words[wrong.index(True)], **dict(reversed(list(zip(words, parts)))))

    def test_a_is_looked_at_alone(self):
        self.wrong("c", 4, 2, 1, 0, "equal")
        self.wrong("c", 2, 5, 2, 0, "equal")
        self.wrong("c", 2, 2, 3, 0, "equal")
        self.wrong("a", 4, 6, 0, 99, "equal")
        self.wrong("a", 4, 0, 1, 0, "equal")
        self.wrong("told", 2, 1, 1, 0, "under", "new", "no")
        self.wrong("stop", 2, 1, 1, 0, "beneath", "new", "no")

    def test_equality(self):
        base = (2, 3, 2, 1, "near1", "new", "down")
        loop = Average(*base)
        self.assertTrue(loop == Average(*base) and not loop != Average(*base))
        unlike = ((3, 4, 2, 1, "near1", "new", "down"), (2, 4, 2, 1, "near1", "new", "down"),
                  (2, 3, 1, 1, "near1", "new", "down"), (2, 3, 2, 0, "near1", "new", "down"),
                  (2, 3, 2, 1, "near2", "new", "down"), (2, 3, 2, 1, "near1", "old", "down"),
                  (2, 3, 2, 1, "near1", "new", "up"))
        for parts in unlike:
            self.assertTrue(loop != Average(*parts) and not loop == Average(*parts), parts)
        self.assertTrue(Average(4, 5, 1, 0, "back") != Average(3, 5, 1, 0, "back"))

    def test_a_loop_equals_nothing_else(self):
        loop = Average(2, 1, 1, 0, "notless")
        for other in (None, 0, "average 2 1 1 0 notless old none", (2, 1, 1, 0, "notless", "old", "none"), [],
                      Average, loop.run(5, 5), object()):
            self.assertFalse(loop == other)
            self.assertTrue(loop != other)

    def test_texts(self):
        self.assertEqual(Average(2, 1, 1, 0, "notless").text(), "average 2 1 1 0 notless old none")
        self.assertEqual(Average(3, 4, 2, -4, "near2", "more", "both").text(), "average 3 4 2 -4 near2 more both")
        self.assertEqual(Average(4, 5, 1, 6, "held", mend="up").text(), "average 4 5 1 6 held old up")
        for loop in some_loops(97):
            self.assertEqual(loop.text(), "average " + " ".join([str(part) for part in parts_of(loop)]))


class StepTest(unittest.TestCase):
    def test_all_weights_and_shifts(self):
        for parts in all_steps():
            loop = Average(*parts, "equal")
            for n, x in itertools.product((0, 1, 2, 3, 7, 8, 15, 16, 80, 1000, 10 ** 12), (1, 2, 3, 4, 9, 10 ** 6)):
                self.assertEqual(loop.step(n, x), plain_step(loop, n, x), (parts, n, x))

    def test_by_names_in_any_order(self):
        loop = Average(2, 1, 1, 0, "notless")
        self.assertEqual(loop.step(x=3, n=29), 6)
        self.assertEqual(loop.step(29, x=3), 6)

    def test_thirty_thousand_figures(self):
        loop = Average(4, 3, 1, 2, "notless")
        x = HUGE // 10 ** 20000
        self.assertEqual(loop.step(HUGE, x), (3 * x + HUGE // x ** 3 + 2) // 4)

    def test_its_two_errors_in_their_order(self):
        loop = Average(2, 1, 1, 0, "notless")
        for bad in NO_NUMBERS:
            for x in (1, 0, "x"):
                with self.assertRaises(BadNumber) as caught:
                    loop.step(bad, x)
                self.assertIs(caught.exception.value, bad)
        for bad in NO_STARTS:
            with self.assertRaises(BadStart) as caught:
                loop.step(0, bad)
            self.assertIs(caught.exception.value, bad)

    def test_gaps(self):
        for k, a, c, d in all_steps():
            loop, m = Average(k, a, c, d, "equal"), a + c
            for n in list(range(1, 90, 4)) + [625, 10 ** 6, 10 ** 6 - 1]:
                r, s = root(n, k), rest(n, k)
                for i in range(1 - r, 6) if r < 9 else range(-4, 6):
                    q = n // (r + i) ** (k - 1) - r + (k - 1) * i
                    self.assertGreaterEqual(q, 0)
                    self.assertEqual(loop.step(n, r + i) - r, ((a - c * (k - 1)) * i + c * q + d) // m)
                    for j in range(4):
                        enough = (r + i) ** (k - 1) * (r - (k - 1) * i + j) - r ** k
                        self.assertEqual(q >= j, s >= enough)

    def test_above_the_root_no_step_turns_the_order(self):
        for parts in all_steps()[::3]:
            loop = Average(*parts, "equal")
            for n in (1, 2, 3, 15, 80, 81, 1000):
                first = plain_root(n, loop.k) + 1
                ahead = [loop.step(n, x) for x in range(first, first + 40)]
                self.assertEqual(ahead, sorted(ahead))
                self.assertGreaterEqual(ahead[0], first - 2)


class RunTest(unittest.TestCase):
    def check(self, loop, n, start):
        run = loop.run(n, start)
        self.assertEqual(four_of(run), plain_run(loop, n, start), (loop.text(), n, start))
        self.assertIs(type(run.guesses), tuple)
        self.assertIs(type(run.ring), tuple)
        return run

    def test_each_stop_word_for_word(self):
        for at, loop in enumerate(some_loops(5)):
            for more in range(6):
                self.check(loop, (at * 7 + more * 13) % 101, 1 + (at * 3 + more * 5) % 23)

    def test_starts_at_beside_below_and_far_above_the_root(self):
        for stop, told in all_ends():
            for mend in MENDS:
                for parts in ((2, 1, 1, 0), (2, 3, 2, -3), (3, 2, 1, 3), (4, 3, 1, 1)):
                    loop = Average(*parts, stop, told, mend)
                    for n in (0, 1, 80, 81, 399, 400, 10 ** 6 - 1, 10 ** 6):
                        r = plain_root(n, loop.k)
                        for start in {max(r, 1), r + 1, max(r - 1, 1), 1, 50 * r + 1}:
                            self.check(loop, n, start)

    def test_the_well_known_loop(self):
        loop = Average(2, 1, 1, 0, "notless")
        self.assertEqual(four_of(loop.run(10, 10)), ((10, 5, 3), "told", 3, ()))
        self.assertEqual(four_of(loop.run(0, 5)), ((5, 2, 1, 0), "nought", None, ()))
        self.assertEqual(four_of(loop.run(0, 1)), ((1, 0), "nought", None, ()))
        for n in range(1, 400):
            for start in range(math.isqrt(n), 60):
                if start >= 1:
                    self.assertEqual(loop.run(n, start).told, math.isqrt(n))

    def test_swings(self):
        loop = Average(2, 1, 1, 0, "equal")
        self.assertEqual(four_of(loop.run(3, 1)), ((1, 2), "swings", None, (1, 2)))
        self.assertEqual(four_of(loop.run(3, 3)), ((3, 2, 1), "swings", None, (2, 1)))
        self.assertEqual(Average(2, 1, 1, 0, "back", "less").run(3, 3).told, 1)

    def test_swings_with_back(self):
        loop = Average(3, 2, 1, 0, "back", "less")
        self.assertEqual(four_of(loop.run(7, 1)), ((1, 3, 2, 1), "swings", None, (3, 2, 1)))
        # the first 3 has no guess before it, so the ring begins behind it
        self.assertEqual(four_of(loop.run(7, 3)), ((3, 2, 1, 3), "swings", None, (2, 1, 3)))

    def test_the_old_the_new_the_less_and_the_more(self):
        told = [Average(2, 1, 1, 1, "near2", word).run(10, 5).told for word in TELLINGS]
        self.assertEqual(told, [5, 4, 4, 5])
        told = [Average(2, 1, 1, 0, "near2", word).run(5, 1).told for word in TELLINGS]
        self.assertEqual(told, [1, 3, 1, 3])
        told = [Average(2, 1, 1, 0, "back", word).run(3, 2).told for word in TELLINGS]
        self.assertEqual(told, [1, 2, 1, 2])

    def test_mended_once(self):
        # from 7 to 6 for n = 10: the root is 3
        runs = [Average(2, 5, 1, 6, "near1", mend=mend).run(10, 7) for mend in MENDS]
        self.assertEqual([run.told for run in runs], [7, 6, 7, 6])
        # from 1 to 0 for n = 15: the root is 3
        told = [Average(2, 5, 1, -5, "near2", "old", mend).run(15, 1).told for mend in MENDS]
        self.assertEqual(told, [1, 1, 2, 2])

    def test_looks(self):
        under, held = Average(2, 1, 1, 0, "under"), Average(2, 1, 1, 0, "held")
        self.assertEqual(four_of(under.run(10, 2)), ((2,), "told", 2, ()))
        self.assertEqual(four_of(held.run(10, 2)), ((2, 3), "told", 3, ()))
        self.assertEqual(four_of(under.run(0, 3)), ((3, 1, 0), "told", 0, ()))
        self.assertEqual(four_of(held.run(0, 3)), ((3, 1, 0), "told", 0, ()))
        down = Average(2, 1, 1, -1, "held")
        self.assertEqual(four_of(down.run(1, 2)), ((2, 0), "nought", None, ()))
        self.assertEqual(four_of(down.run(1, 3)), ((3, 1), "told", 1, ()))
        self.assertEqual(Average(2, 5, 1, -5, "under", mend="up").run(15, 2).told, 3)

    def test_rounded_up(self):
        self.assertEqual(four_of(Average(2, 1, 1, 1, "notless").run(2, 2)), ((2,), "told", 2, ()))
        mended = Average(2, 1, 1, 1, "notless", mend="down")
        for n in range(1, 200):
            self.assertEqual(tells(mended, n), (math.isqrt(n),))

    def test_nought_shows_its_guess(self):
        run = Average(2, 1, 1, -1, "equal").run(1, 1)
        self.assertEqual(four_of(run), ((1, 0), "nought", None, ()))

    def test_long_runs_of_large_numbers(self):
        begun = time.process_time()
        r = root(HUGE, 2)
        run = Average(2, 1, 1, 0, "notless").run(HUGE, r << 300)
        self.assertEqual((run.end, run.told, run.ring), ("told", r, ()))
        self.assertEqual(run.guesses[-1], r)
        self.assertTrue(all(y == (x + HUGE // x) // 2 for x, y in zip(run.guesses[:3], run.guesses[1:])))
        self.assertEqual(Average(4, 3, 1, 0, "under").run(HUGE, root(HUGE, 4) + 1).told, root(HUGE, 4))
        run = Average(2, 1, 1, 0, "notless").run(10 ** 600, 10 ** 600)
        self.assertEqual((run.told, run.guesses[0]), (10 ** 300, 10 ** 600))
        self.assertLess(time.process_time() - begun, 60)

    def test_equality(self):
        loop = Average(2, 1, 1, 0, "equal")
        run = loop.run(3, 3)
        self.assertTrue(run == loop.run(3, 3) and not run != loop.run(3, 3))
        self.assertFalse(run == loop.run(3, 2))
        self.assertFalse(Average(2, 1, 1, 0, "near1").run(10, 4) == Average(2, 1, 1, 0, "near1", "new").run(10, 4))
        told, ended = loop.run(10, 3), Average(2, 1, 1, 0, "notless").run(10, 3)
        self.assertTrue(told == ended)
        for other in (None, four_of(run), list(four_of(run)), loop, "swings", Run, object()):
            self.assertFalse(run == other)
            self.assertTrue(run != other)

    def test_each_of_the_four_counts(self):
        base = ((3, 2, 1), "swings", None, (2, 1))
        self.assertTrue(Run(*base) == Run(*base))
        for unlike in (((4, 2, 1), "swings", None, (2, 1)), ((3, 2, 1), "nought", None, (2, 1)),
                       ((3, 2, 1), "swings", 1, (2, 1)), ((3, 2, 1), "swings", None, (3, 2, 1))):
            self.assertFalse(Run(*base) == Run(*unlike))
            self.assertTrue(Run(*base) != Run(*unlike))
        # the same guesses, both told, but not the same number
        less, more = [Average(2, 1, 1, 0, "near1", word).run(3, 1) for word in ("less", "more")]
        self.assertEqual((less.guesses, less.end, less.ring), (more.guesses, more.end, more.ring))
        self.assertFalse(less == more)

    def test_by_names_and_nothing_kept(self):
        loop = Average(2, 1, 1, 0, "notless")
        before = parts_of(loop)
        self.assertEqual(loop.run(start=10, n=10), loop.run(10, 10))
        self.assertEqual(loop.run(10, start=10).told, 3)
        self.assertEqual(parts_of(loop), before)

    def test_its_two_errors_in_their_order(self):
        for loop in (Average(2, 1, 1, 0, "notless"), Average(2, 1, 1, 0, "under")):
            for bad in NO_NUMBERS:
                for start in (1, 0, "x"):
                    with self.assertRaises(BadNumber) as caught:
                        loop.run(bad, start)
                    self.assertIs(caught.exception.value, bad)
            for bad in NO_STARTS:
                with self.assertRaises(BadStart) as caught:
                    loop.run(0, bad)
                self.assertIs(caught.exception.value, bad)


class TellsTest(unittest.TestCase):
    def check(self, loop, n, many):
        first = max(root(n, loop.k), 1)
        starts = list(range(first, first + many)) + [2 * first + 60, 5 * first + 100, 40 * first + 1000]
        self.assertEqual(tells(loop, n), plain_tells(loop, n, starts), (loop.text(), n))

    def test_nought(self):
        for loop in some_loops(11):
            self.check(loop, 0, 40)
        self.assertEqual(tells(Average(2, 1, 1, 0, "notless"), 0), ("nought",))
        self.assertEqual(tells(Average(2, 1, 1, 0, "under"), 0), (0,))

    def test_small_numbers(self):
        for at, loop in enumerate(some_loops(37)):
            for n in range(1 + at % 7, 90, 7):
                self.check(loop, n, 50)

    def test_small_numbers_with_great_guesses_behind_back(self):
        # beside small roots guesses leap far up, so that far starts are come back to
        for parts in all_steps():
            loop = Average(*parts, "back", "old")
            for n in (1, 2, 3, 7, 8, 11, 12, 13, 14, 15, 26, 63, 80):
                self.check(loop, n, 70)
        # from 1 the guesses come back to 1; from 3 the first guess is come back to at once
        self.assertEqual(tells(Average(4, 3, 1, -3, "back"), 12), (1, 3))

    def test_all_numbers_of_some_loops(self):
        for loop in (Average(2, 1, 1, 0, "equal"), Average(3, 2, 1, 0, "back", "less"),
                     Average(4, 3, 1, -3, "held"), Average(2, 5, 1, 6, "near2", "new", "both")):
            for n in range(260):
                self.check(loop, n, 30)

    def test_numbers_of_more_than_a_hundred_figures(self):
        r = 10 ** 60 + 12345
        for at, loop in enumerate(some_loops(41)):
            whole = r ** loop.k
            end = (r + 1) ** loop.k - whole
            for s in (0, at % 9, end // 3 + at, end - 1 - at % 5, end - 1):
                first, n = r, whole + s
                starts = list(range(first, first + 30)) + [2 * first]
                self.assertEqual(tells(loop, n), plain_tells(loop, n, starts), (loop.text(), n))

    def test_thirty_thousand_figures(self):
        begun = time.process_time()
        r = root(HUGE, 2)
        self.assertEqual(tells(Average(2, 1, 1, 0, "notless"), HUGE), (r,))
        self.assertEqual(tells(Average(2, 1, 1, 0, "equal"), r * r - 1), ("swings",))
        self.assertEqual(tells(Average(2, 1, 1, 0, "back", "less"), r * r - 1), (r - 1,))
        self.assertEqual(tells(Average(2, 1, 1, 0, "near1", "more"), HUGE), (r, r + 1))
        self.assertLess(time.process_time() - begun, 60)

    def test_the_order_of_outcomes(self):
        kinds = set()
        for loop in some_loops(13):
            for n in (1, 2, 3, 5, 7, 8):
                told = tells(loop, n)
                self.assertIs(type(told), tuple)
                numbers = [outcome for outcome in told if isinstance(outcome, int)]
                words = [outcome for outcome in told if isinstance(outcome, str)]
                self.assertEqual(list(told), sorted(set(numbers)) + words)
                self.assertIn(words, ([], ["nought"], ["swings"], ["nought", "swings"]))
                kinds.add((len(numbers) > 0,) + tuple(words))
        self.assertIn((True, "nought"), kinds)
        self.assertIn((True, "swings"), kinds)

    def test_examples_of_the_document(self):
        for n in range(1, 400):
            r = math.isqrt(n)
            self.assertEqual(tells(Average(2, 1, 1, 0, "notless"), n), (r,))
            self.assertEqual(tells(Average(2, 1, 1, 0, "back", "less"), n), (r,))
            swings = "swings" in tells(Average(2, 1, 1, 0, "equal"), n)
            self.assertEqual(swings, n == r * r + 2 * r)
        self.assertIn("swings", tells(Average(3, 2, 1, 0, "back", "less"), 7))
        for r in (50, 1000, 10 ** 40):
            loop = Average(3, 2, 1, 0, "equal")
            self.assertNotIn("swings", tells(loop, r ** 3 + 3 * r ** 2 - 1))
            self.assertIn("swings", tells(loop, r ** 3 + 3 * r ** 2))
            self.assertIn("swings", tells(loop, (r + 1) ** 3 - 1))
        self.assertIn(2, tells(Average(2, 1, 1, 1, "notless"), 2))

    def test_by_names(self):
        self.assertEqual(tells(n=10, loop=Average(2, 1, 1, 0, "notless")), (3,))

    def test_bad_number(self):
        for bad in NO_NUMBERS:
            with self.assertRaises(BadNumber) as caught:
                tells(Average(2, 1, 1, 0, "notless"), bad)
            self.assertIs(caught.exception.value, bad)


class NearStepsTest(unittest.TestCase):
    def test_the_steps_lead_as_they_do_until_the_next_turn(self):
        for loop in some_loops(331):
            for n in (1, 2, 7, 16, 80, 81, 255, 624, 1295, 2401):
                steps, starts = near_steps([loop], n, plain_root(n, loop.k))
                self.assertEqual(starts, list(range(starts[0], starts[-1] + 1)))
                self.assertEqual(starts[0], plain_root(n, loop.k))
                until = next_turn(loop, n, steps)
                for number in {n, n + 1, until - 1}:
                    if number < until:
                        self.assertEqual(steps, {x: plain_step(loop, number, x) for x in steps})
                self.assertNotEqual(steps, {x: plain_step(loop, until, x) for x in steps})

    def test_several_loops_with_one_step_have_the_starts_that_each_needs(self):
        for step in all_steps()[::9]:
            loops = [Average(*step, stop) for stop in STOPS]
            for n in (1, 30, 83):
                floor = plain_root(n, step[0])
                steps, starts = near_steps(loops, n, floor)
                for loop in loops:
                    own_steps, own_starts = near_steps([loop], n, floor)
                    self.assertLessEqual(own_starts[-1], starts[-1])
                    self.assertEqual({x: steps[x] for x in own_steps}, own_steps)


if __name__ == "__main__":
    unittest.main()
