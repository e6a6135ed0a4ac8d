"""Promise [34]: floorward/steps.py."""

import itertools
import unittest

from floorward.averages import Average
from floorward.errors import BadLoop, BadStart
from floorward.halves import Halves
from floorward.numbers import root
from floorward.sought import Sought, thing_with
from floorward.steps import Steps, StepsRun, steps_fault, steps_tells
from tests.plain import HUGE, all_stepping, compare_with, plain_compare, plain_steps
from tests.wrong import NO_INTEGERS, NO_NUMBERS, NO_STARTS, NO_WORDS

WORDS = ("test", "after", "last", "plus")
VALUES = (("upto", "below"), ("half", "same", "double"), (1, 2), (-1, 0, 1))
RIGHT = Steps("upto", "half", 1, 0)


def parts_of(steps):
    return tuple([getattr(steps, word) for word in WORDS])


class PartsTest(unittest.TestCase):
    def wrong(self, word, *parts, **named):
        with self.assertRaises(BadLoop) as caught:
            Steps(*parts, **named)
        self.assertEqual(vars(caught.exception), {"word": word}, (parts, named))

    def test_all_possible_parts_by_place_and_by_name(self):
        for parts in itertools.product(*VALUES):
            self.assertEqual(parts_of(Steps(*parts)), parts)
            self.assertEqual(parts_of(Steps(**dict(reversed(list(zip(WORDS, parts)))))), parts)
        self.assertEqual(len(all_stepping()), 36)

    def test_each_part_wrong_alone(self):
        right = ("below", "double", 2, -1)
        for at, word in enumerate(WORDS):
            bads = NO_WORDS if isinstance(right[at], str) else NO_INTEGERS + (-2, 3, 10 ** 30000)
            for bad in bads + ((0, -1) if word == "last" else (2,) if word == "plus" else ("less", "up")):
                self.wrong(word, *right[:at], bad, *right[at + 1:])
        for bad in (True, False):
            self.wrong("last", "upto", "half", bad, 1)
            self.wrong("plus", "upto", "half", 1, bad)

    def test_several_wrong_the_first_is_told(self):
        right = ("upto", "same", 1, 1)
        for wrong in itertools.product((False, True), repeat=4):
            if any(wrong):
                for bad in (None, True, 5, "x"):
                    parts = [bad if is_wrong else part for is_wrong, part in zip(wrong, right)]
                    self.wrong(WORDS[wrong.index(True)], *parts)
                    self.wrong(WORDS[wrong.index(True)], **dict(reversed(list(zip(WORDS, parts)))))

    def test_equality(self):
        base = ("upto", "same", 1, 1)
        steps = Steps(*base)
        self.assertTrue(steps == Steps(*base) and not steps != Steps(*base))
        for at, values in enumerate(VALUES):
            for value in values:
                if value != base[at]:
                    other = Steps(*base[:at], value, *base[at + 1:])
                    self.assertTrue(steps != other and not steps == other, other.text())

    def test_a_loop_equals_nothing_else(self):
        for other in (None, parts_of(RIGHT), list(parts_of(RIGHT)), RIGHT.text(), 0, Steps, object(),
                      Average(2, 1, 1, 0, "notless"), Halves(0, "upto", 1, 0, "less", "low", 0), StepsRun((), 0)):
            self.assertFalse(RIGHT == other)
            self.assertTrue(RIGHT != other)

    def test_texts(self):
        self.assertEqual(RIGHT.text(), "steps upto half 1 0")
        self.assertEqual(Steps("below", "double", 2, -1).text(), "steps below double 2 -1")
        for steps in all_stepping():
            self.assertEqual(steps.text(), "steps " + " ".join([str(part) for part in parts_of(steps)]))


class RunTest(unittest.TestCase):
    def check(self, steps, sought, x, p):
        run = steps.run(sought, x, p)
        self.assertIsInstance(run, StepsRun)
        self.assertIs(type(run.places), tuple)
        self.assertTrue(all(type(place) is tuple for place in run.places))
        wanted = plain_steps(steps, lambda at: plain_compare(sought.kind, sought.by, sought.n, at), x, p)
        self.assertEqual((run.places, run.told), wanted, (steps.text(), vars(sought), x, p))
        return run

    def test_by_place_and_by_name(self):
        sought = Sought("root", 2, 30)
        for run in (RIGHT.run(sought, 0, 4), RIGHT.run(p=4, x=0, sought=sought), RIGHT.run(sought, p=4, x=0)):
            self.assertEqual((run.places, run.told), (((0, 4), (4, 2), (4, 1)), 5))

    def test_all_loops_with_each_kind_of_thing(self):
        things = [Sought("root", 2, 30), Sought("root", 3, 27), Sought("share", 7, 300), Sought("share", 5, 30),
                  Sought("log", 2, 30), Sought("log", 3, 27), Sought("root", 4, 0), Sought("log", 2, 1)]
        for steps, sought in itertools.product(all_stepping(), things):
            for x, p in itertools.product((0, 1, 3, 5, 50), (1, 2, 3, 4, 7, 8, 64)):
                self.check(steps, sought, x, p)

    def test_what_comes_after_a_step(self):
        sought = Sought("share", 1, 11)
        self.assertEqual(self.check(Steps("upto", "half", 1, 0), sought, 0, 2).places, ((0, 2), (2, 1)))
        self.assertEqual(self.check(Steps("upto", "same", 1, 0), sought, 5, 2).places,
                         ((5, 2), (7, 2), (9, 2), (11, 2), (11, 1)))
        self.assertEqual(self.check(Steps("upto", "double", 1, 0), sought, 0, 1).places,
                         ((0, 1), (1, 2), (3, 4), (7, 8), (7, 4), (11, 8), (11, 4), (11, 2), (11, 1)))

    def test_the_last_step(self):
        for p in (1, 2):
            for test in ("upto", "below"):
                run = self.check(Steps(test, "half", 2, 0), Sought("share", 1, 9), 7, p)
                self.assertEqual(run.places, ((7, 2),) if p == 2 else ())
                self.assertEqual(run.told, 9 if p == 2 and test == "upto" else 7)
        self.assertEqual(self.check(Steps("upto", "half", 1, 0), Sought("share", 1, 8), 7, 1).places, ((7, 1),))

    def test_a_number_below_0(self):
        self.assertEqual(self.check(Steps("below", "half", 1, -1), Sought("root", 2, 0), 0, 1).told, -1)

    def test_a_place_above_the_answer(self):
        self.assertEqual(self.check(Steps("upto", "half", 1, 0), Sought("root", 2, 30), 9, 4).told, 9)

    def test_great_numbers(self):
        for sought in (Sought("root", 2, 10 ** 60 - 1), Sought("share", 37, 10 ** 60), Sought("log", 2, 10 ** 300)):
            x = sought.answer()
            for steps in all_stepping():
                self.check(steps, sought, max(0, x - 990), 512)
        self.assertEqual(Steps("upto", "double", 1, 0).run(Sought("root", 2, 10 ** 60), 0, 1).told, 10 ** 30)

    def test_thirty_thousand_figures(self):
        x = root(HUGE, 3)
        run = RIGHT.run(Sought("root", 3, HUGE), x - 10 ** 60, 2 ** 200)
        self.assertEqual(run.told, x)
        self.assertEqual(run.places[0], (x - 10 ** 60, 2 ** 200))
        self.assertEqual(len(run.places), 201)

    def test_its_two_errors_in_their_order(self):
        sought = Sought("root", 2, 30)
        for bad in NO_NUMBERS:
            for p in (1, 0, None):
                with self.assertRaises(BadStart) as caught:
                    RIGHT.run(sought, bad, p)
                self.assertIs(caught.exception.value, bad)
        for bad in NO_STARTS:
            for x in (0, 7):
                with self.assertRaises(BadStart) as caught:
                    RIGHT.run(p=bad, x=x, sought=sought)
                self.assertIs(caught.exception.value, bad)

    def test_nothing_is_changed(self):
        sought, before = Sought("root", 2, 30), parts_of(RIGHT)
        RIGHT.run(sought, 0, 4)
        self.assertEqual(parts_of(RIGHT), before)
        self.assertEqual((sought.kind, sought.by, sought.n), ("root", 2, 30))


def plain_comes(steps, p, answer, hit, x=0):
    """The number told less the answer in a run from x, with the answer so far above x."""
    return plain_steps(steps, compare_with(x + answer, hit), x, p)[1] - answer - x


class AllStartsTest(unittest.TestCase):
    def test_by_place_and_by_name(self):
        steps = Steps("below", "half", 1, 0)
        self.assertEqual((steps_tells(steps), steps_tells(steps=steps)), ((-1, 0), (-1, 0)))
        self.assertEqual((steps_fault(steps), steps_fault(steps=steps)), ((1, 1, True), (1, 1, True)))

    def test_known_loops(self):
        for after in ("half", "same", "double"):
            self.assertEqual((steps_tells(Steps("upto", after, 1, 0)), steps_fault(Steps("upto", after, 1, 0))),
                             ((0,), None))
        self.assertEqual(steps_tells(Steps("upto", "half", 2, 0)), (-1, 0))
        self.assertEqual(steps_fault(Steps("upto", "half", 2, 0)), (1, 1, False))
        self.assertEqual(steps_tells(Steps("upto", "half", 1, 1)), (1,))
        self.assertEqual(steps_fault(Steps("upto", "half", 1, 1)), (1, 0, False))
        self.assertEqual(steps_tells(Steps("below", "same", 2, 1)), (-1, 0, 1))

    def test_all_loops_against_runs_for_small_p(self):
        for steps in all_stepping():
            starts = [(p, answer, hit) for p in (1, 2, 4, 8, 16, 32) for answer in range(2 * p)
                      for hit in (False, True)]
            came = [(start, plain_comes(steps, *start)) for start in starts]
            told = steps_tells(steps)
            self.assertIs(type(told), tuple)
            self.assertEqual(told, tuple(sorted({less for _, less in came})), steps.text())
            faults = [start for start, less in came if less != 0]
            found = steps_fault(steps)
            self.assertEqual(found, faults[0] if faults else None, steps.text())
            self.assertIs(found is None, told == (0,))
            if found is not None:
                self.assertIs(type(found), tuple)
                self.assertIs(type(found[2]), bool)

    def test_great_p_and_other_places_bring_nothing_else(self):
        for steps in all_stepping():
            told = steps_tells(steps)
            for p, hit, x in itertools.product((64, 1024, 2 ** 70), (False, True), (0, 5, 10 ** 30)):
                for answer in (0, 1, 2, 3, p - 1, p, p + 1, p + p // 3, 2 * p - 2, 2 * p - 1):
                    self.assertIn(plain_comes(steps, p, answer, hit, x), told, steps.text())

    def test_faults_are_runs_that_do_not_tell_the_answer(self):
        found = [(steps, steps_fault(steps)) for steps in all_stepping()]
        for steps, fault in found:
            if fault is not None:
                p, answer, hit = fault
                for sought in (Sought("share", 3, 3 * answer + (not hit)), Sought("log", 5, 5 ** answer + (not hit)),
                               thing_with(answer, hit)):
                    self.assertEqual((sought.answer(), sought.is_hit()), (answer, hit))
                    self.assertNotEqual(steps.run(sought, 0, p).told, answer)
        self.assertEqual([steps.text() for steps, fault in found if fault is None],
                         ["steps upto half 1 0", "steps upto same 1 0", "steps upto double 1 0"])


if __name__ == "__main__":
    unittest.main()
