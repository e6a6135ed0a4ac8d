"""Promise [35]: floorward/led.py."""

import itertools
import unittest

from floorward.averages import Average
from floorward.errors import BadNumber, BadStart, NoGuess
from floorward.led import Led
from floorward.numbers import root
from tests.plain import HUGE, MENDS, all_ends, plain_run, some_loops
from tests.wrong import NO_NUMBERS, NO_STARTS

KNOWN = Average(2, 1, 1, 0, "notless")
SWINGING = Average(2, 1, 1, 0, "equal")
# From 1 its step leads to 0, where the next one would divide by nought.
FALLING = Average(2, 1, 1, -1, "equal")


def state_of(led):
    return led.guess, led.before, led.told


def all_states(led):
    """The present state and all those that can be come back to; led is as before afterwards."""
    def work(inner):
        states = [state_of(inner)]
        while inner.undo():
            states.append(state_of(inner))
        return states
    return led.trial(work)


class LedTest(unittest.TestCase):
    def whole(self, loop, n, start):
        """Lead a loop to its end or round its ring; return the guesses and how it ended."""
        guesses, end, told, ring = plain_run(loop, n, start)
        led = Led(loop, n, start)
        for at in range(len(guesses) + 2 * len(ring)):
            place = at if at < len(guesses) else len(guesses) - len(ring) + (at - len(guesses)) % len(ring)
            self.assertEqual((led.guess, led.told), (guesses[place], None), (loop.text(), n, start))
            if end != "swings" and at == len(guesses) - 1:
                break
            before = led.guess
            self.assertEqual(led.round(), "goes")
            self.assertEqual(led.before, before)
        if end == "told":
            state = led.guess, led.before
            self.assertEqual((led.round(), led.told), ("told", told), (loop.text(), n, start))
            self.assertEqual((led.guess, led.before), state)
        elif end == "nought":
            self.assertRaises(NoGuess, led.round)
        return end

    def test_by_place_and_by_name(self):
        for led in (Led(KNOWN, 10, 20), Led(start=20, n=10, loop=KNOWN), Led(KNOWN, start=20, n=10)):
            self.assertIs(led.loop, KNOWN)
            self.assertEqual((led.n, led.guess, led.before, led.told), (10, 20, None, None))
            self.assertEqual(led.round(), "goes")
            self.assertEqual(state_of(led), (10, 20, None))
            self.assertIsNone(led.put(guess=4))
            self.assertEqual(led.trial(work=state_of), (4, None, None))

    def test_the_well_known_loop(self):
        led = Led(KNOWN, 10, 10)
        self.assertEqual([(led.round(), state_of(led)) for _ in range(4)],
                         [("goes", (5, 10, None)), ("goes", (3, 5, None)), ("told", (3, 5, 3)), ("told", (3, 5, 3))])

    def test_each_stop_and_each_mend_as_the_runs(self):
        ends = set()
        for (stop, told), mend in itertools.product(all_ends(), MENDS):
            for parts in ((2, 1, 1, 0), (2, 3, 2, -3), (3, 2, 1, 3), (4, 3, 1, -3)):
                loop = Average(*parts, stop, told, mend)
                for n, start in ((0, 5), (3, 1), (7, 3), (12, 1), (80, 2), (700, 60)):
                    ends.add((stop, self.whole(loop, n, start)))
        self.assertEqual({end for _, end in ends}, {"told", "nought", "swings"})
        self.assertGreaterEqual({stop for stop, end in ends if end == "told"}, {"notless", "near2", "back", "held"})

    def test_many_loops(self):
        for at, loop in enumerate(some_loops(29)):
            self.whole(loop, at % 90, 1 + at % 13)

    def test_a_swinging_run_led_on_in_its_ring(self):
        led = Led(SWINGING, 3, 3)
        self.assertEqual([(led.round(), led.guess) for _ in range(7)], [("goes", x) for x in (2, 1, 2, 1, 2, 1, 2)])
        self.assertEqual([(led.undo(), led.guess) for _ in range(7)], [(True, x) for x in (1, 2, 1, 2, 1, 2, 3)])
        self.assertIs(led.undo(), False)
        self.assertEqual(state_of(led), (3, None, None))

    def test_back_looks_at_the_guess_before(self):
        led = Led(Average(2, 1, 1, 0, "back", "less"), 3, 1)
        self.assertEqual([(led.round(), state_of(led)) for _ in range(2)],
                         [("goes", (2, 1, None)), ("told", (2, 1, 1))])
        # What was put has no guess before it.
        led = Led(Average(2, 1, 1, 0, "back", "less"), 3, 1)
        led.round()
        led.put(2)
        self.assertEqual([(led.round(), state_of(led)) for _ in range(2)],
                         [("goes", (1, 2, None)), ("told", (1, 2, 1))])

    def test_told_once_and_again(self):
        led = Led(Average(2, 1, 1, 0, "under"), 10, 3)
        self.assertEqual([led.round(), led.round(), led.round()], ["told"] * 3)
        self.assertEqual(state_of(led), (3, None, 3))
        self.assertIs(led.undo(), True)
        self.assertEqual(state_of(led), (3, None, None))
        self.assertIs(led.undo(), False)

    def test_a_told_0_is_told(self):
        led = Led(Average(2, 1, 1, 0, "under"), 0, 1)
        self.assertEqual([led.round(), led.round(), led.round()], ["goes", "told", "told"])
        self.assertEqual(state_of(led), (0, 1, 0))
        self.assertEqual([led.undo(), led.undo(), led.undo()], [True, True, False])
        self.assertEqual(state_of(led), (1, None, None))

    def test_no_guess_changes_nothing(self):
        led = Led(FALLING, 1, 3)
        self.assertEqual([led.round(), led.round()], ["goes", "goes"])
        states = all_states(led)
        self.assertEqual(states, [(0, 1, None), (1, 3, None), (3, None, None)])
        for _ in range(3):
            with self.assertRaises(NoGuess) as caught:
                led.round()
            self.assertEqual(vars(caught.exception), {})
            self.assertEqual(all_states(led), states)
        led.put(1)
        self.assertEqual(led.round(), "goes")
        self.assertEqual(all_states(led), [(0, 1, None), (1, None, None)] + states)

    def test_put(self):
        led = Led(KNOWN, 10, 10)
        while led.round() != "told":
            pass
        self.assertIsNone(led.put(7))
        self.assertEqual(state_of(led), (7, None, None))
        self.assertEqual([led.round() for _ in range(3)], ["goes", "goes", "told"])
        self.assertEqual(led.told, 3)
        led.put(7)
        led.put(7)
        self.assertEqual(all_states(led)[:3], [(7, None, None), (7, None, None), (3, 4, 3)])

    def test_put_of_no_start_changes_nothing(self):
        led = Led(KNOWN, 10, 10)
        led.round()
        states = all_states(led)
        for bad in NO_STARTS:
            with self.assertRaises(BadStart) as caught:
                led.put(bad)
            self.assertIs(caught.exception.value, bad)
            with self.assertRaises(BadStart):
                led.put(guess=bad)
        self.assertEqual(all_states(led), states)

    def test_undo_of_rounds_and_puts_down_to_false(self):
        led = Led(KNOWN, 10, 10)
        self.assertIs(led.undo(), False)
        led.round(), led.put(9), led.round(), led.round(), led.round(), led.round(), led.put(1)
        self.assertEqual(all_states(led), [(1, None, None), (3, 5, 3), (3, 5, None), (5, 9, None), (9, None, None),
                                           (5, 10, None), (10, None, None)])
        self.assertEqual([led.undo() for _ in range(8)], [True] * 6 + [False] * 2)
        self.assertEqual(state_of(led), (10, None, None))

    def test_after_undo_it_goes_on_from_there(self):
        led = Led(KNOWN, 10, 10)
        led.round(), led.round(), led.undo(), led.put(4), led.undo(), led.round(), led.round()
        self.assertEqual(all_states(led), [(3, 5, 3), (3, 5, None), (5, 10, None), (10, None, None)])

    def test_errors_of_making_one_in_their_order(self):
        for bad in NO_NUMBERS:
            for start in (1, 0, "x"):
                with self.assertRaises(BadNumber) as caught:
                    Led(KNOWN, bad, start)
                self.assertIs(caught.exception.value, bad)
        for bad in NO_STARTS:
            with self.assertRaises(BadStart) as caught:
                Led(start=bad, n=0, loop=KNOWN)
            self.assertIs(caught.exception.value, bad)

    def test_thirty_thousand_figures(self):
        r = root(HUGE, 2)
        led = Led(KNOWN, HUGE, r << 100)
        count = 0
        while led.round() == "goes":
            count += 1
        self.assertEqual((led.told, count), (r, len(KNOWN.run(HUGE, r << 100).guesses) - 1))
        self.assertEqual((led.twin().told, led.undo(), led.told), (r, True, None))


class TrialTest(unittest.TestCase):
    def led(self):
        led = Led(KNOWN, 100, 100)
        led.round(), led.put(60), led.round()
        return led

    def test_it_returns_what_work_returns_and_leaves_all_as_it_was(self):
        def lead(led):
            given.append(led)
            while led.round() != "told":
                pass
            return led.told, "any"
        led, given = self.led(), []
        states = all_states(led)
        self.assertEqual(led.trial(lead), (10, "any"))
        self.assertIs(given[0], led)
        self.assertEqual(all_states(led), states)
        self.assertEqual(states, [(30, 60, None), (60, None, None), (50, 100, None), (100, None, None)])
        self.assertIsNone(led.trial(lambda led: None))
        self.assertEqual(led.round(), "goes")

    def test_what_is_taken_back_in_a_trial_can_be_taken_back_behind_it(self):
        def work(led):
            self.assertEqual([led.undo() for _ in range(4)], [True, True, True, False])
            led.put(5)
            led.round()
        led = self.led()
        states = all_states(led)
        led.trial(work)
        self.assertEqual(all_states(led), states)
        self.assertEqual([led.undo() for _ in range(4)], [True, True, True, False])

    def test_an_error_that_leaves_the_function(self):
        class Odd(BaseException):
            pass

        def work(led):
            led.put(1), led.undo(), led.undo(), led.undo(), led.put(3)
            raise error
        for error in (KeyError("x"), Odd(), NoGuess(), StopIteration()):
            led = self.led()
            states = all_states(led)
            with self.assertRaises(type(error)) as caught:
                led.trial(work)
            self.assertIs(caught.exception, error)
            self.assertEqual(all_states(led), states)

    def test_an_error_of_the_led_loop_itself(self):
        led = Led(FALLING, 1, 3)
        states = all_states(led)
        with self.assertRaises(NoGuess):
            led.trial(lambda led: [led.round() for _ in range(9)])
        self.assertEqual(all_states(led), states)
        with self.assertRaises(BadStart):
            led.trial(lambda led: (led.round(), led.put(0)))
        self.assertEqual(all_states(led), states)

    def test_trials_within_trials(self):
        def inner(led):
            led.undo(), led.put(11), led.round(), led.round()
            return state_of(led)

        def outer(led):
            led.round()
            states = all_states(led)
            told = led.trial(inner)
            self.assertEqual(all_states(led), states)
            self.assertEqual(led.trial(lambda led: led.trial(inner)), told)
            self.assertEqual(all_states(led), states)
            with self.assertRaises(ZeroDivisionError):
                led.trial(lambda led: (led.put(8), 1 // 0))
            self.assertEqual(all_states(led), states)
            return told
        led = self.led()
        states = all_states(led)
        self.assertEqual(led.trial(outer), (10, 11, 10))
        self.assertEqual(all_states(led), states)

    def test_a_told_number_is_told_again_behind_a_trial(self):
        led = Led(KNOWN, 10, 3)
        led.round()
        self.assertEqual(led.trial(lambda led: (led.put(9), led.told)), (None, None))
        self.assertEqual(state_of(led), (3, None, 3))
        self.assertIs(led.trial(lambda led: led.undo()), True)
        self.assertEqual(led.round(), "told")
        self.assertEqual(all_states(led), [(3, None, 3), (3, None, None)])


class TwinTest(unittest.TestCase):
    def test_a_twin_is_as_it_is(self):
        led = Led(KNOWN, 100, 100)
        led.round(), led.put(60), led.round()
        twin = led.twin()
        self.assertIsInstance(twin, Led)
        self.assertIsNot(twin, led)
        self.assertIs(twin.loop, KNOWN)
        self.assertEqual((twin.n, state_of(twin)), (100, (30, 60, None)))
        self.assertEqual(all_states(twin), all_states(led))

    def test_twins_go_their_own_way(self):
        led = Led(KNOWN, 100, 100)
        led.round(), led.put(60), led.round()
        states = all_states(led)
        twin = led.twin()
        twin.undo(), twin.undo(), twin.put(7), twin.round()
        self.assertEqual(all_states(led), states)
        others = all_states(twin)
        self.assertEqual(others, [(7, None, 7), (7, None, None), (50, 100, None), (100, None, None)])
        led.round(), led.round(), led.undo(), led.put(3)
        self.assertEqual(all_states(twin), others)
        self.assertNotEqual(all_states(led), states)

    def test_a_twin_that_is_told_or_stands_at_0(self):
        led = Led(Average(2, 1, 1, 0, "under"), 0, 1)
        led.round()
        twin = led.twin()
        self.assertEqual((state_of(twin), twin.round(), led.told), ((0, 1, None), "told", None))
        again = twin.twin()
        self.assertEqual((state_of(again), again.round()), ((0, 1, 0), "told"))
        self.assertEqual([again.undo() for _ in range(3)], [True, True, False])
        self.assertEqual((twin.told, led.round()), (0, "told"))
        falling = Led(FALLING, 1, 1)
        falling.round()
        self.assertRaises(NoGuess, falling.twin().round)

    def test_twins_within_trials(self):
        def work(led):
            led.round()
            twin = led.twin()
            twin.put(12)
            led.undo()
            return twin
        led = Led(KNOWN, 100, 100)
        led.round()
        states = all_states(led)
        twin = led.trial(work)
        self.assertEqual(all_states(led), states)
        self.assertEqual(all_states(twin), [(12, None, None), (26, 50, None), (50, 100, None), (100, None, None)])
        self.assertEqual(twin.trial(lambda inner: inner.trial(work)).guess, 12)
        self.assertEqual(twin.guess, 12)


if __name__ == "__main__":
    unittest.main()
