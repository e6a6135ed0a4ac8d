"""Promises [31] to [33]: floorward/halves.py."""

import itertools
import unittest

from floorward.averages import Average
from floorward.errors import BadBracket, BadKind, BadLoop
from floorward.halves import Halves, HalvesRun, halves_fault, halves_tells
from floorward.numbers import root
from floorward.sought import Sought, thing_with
from floorward.steps import Steps
from tests.plain import HUGE, all_halves, compare_with, plain_compare, plain_halves
from tests.wrong import NO_INTEGERS, NO_NUMBERS, NO_WORDS

WORDS = ("up", "test", "low", "high", "stop", "told", "plus")
VALUES = ((0, 1), ("upto", "below"), (0, 1), (0, 1), ("less", "most", "wide"), ("low", "high"), (-1, 0, 1))
# Right in all closed brackets, right in all open ones, and one that swings where the answer is lo and hi the next one.
CLOSED = Halves(1, "upto", 0, 1, "less", "low", 0)
OPEN = Halves(0, "upto", 0, 0, "wide", "low", 0)
SWINGING = Halves(0, "upto", 0, 1, "less", "low", 0)


def parts_of(halves):
    return tuple([getattr(halves, word) for word in WORDS])


def three_of(run):
    return run.mids, run.end, run.told


class PartsTest(unittest.TestCase):
    def wrong(self, word, *parts, **named):
        with self.assertRaises(BadLoop) as caught:
            Halves(*parts, **named)
        self.assertEqual(vars(caught.exception), {"word": word}, (parts, named))

    def test_all_possible_parts_by_place_and_by_name(self):
        for parts in itertools.product(*VALUES):
            self.assertEqual(parts_of(Halves(*parts)), parts)
            self.assertEqual(parts_of(Halves(**dict(reversed(list(zip(WORDS, parts)))))), parts)
        self.assertEqual(len(all_halves()), 288)

    def test_each_part_wrong_alone(self):
        right = (1, "below", 0, 1, "wide", "high", -1)
        for at, word in enumerate(WORDS):
            bads = NO_WORDS if isinstance(right[at], str) else NO_INTEGERS + (-2, 2, 10 ** 30000)
            for bad in bads + ((-1,) if word in ("up", "low", "high") else ()):
                self.wrong(word, *right[:at], bad, *right[at + 1:])
        for word, bad in (("test", "less"), ("test", "high"), ("stop", "low"), ("stop", "under"), ("told", "old"),
                          ("told", "less")):
            self.wrong(word, *[bad if word == name else part for name, part in zip(WORDS, right)])

    def test_true_and_false_are_no_integers(self):
        right = (1, "upto", 1, 1, "less", "low", 1)
        for at, word in enumerate(WORDS):
            if not isinstance(right[at], str):
                for bad in (True, False):
                    self.wrong(word, *right[:at], bad, *right[at + 1:])

    def test_several_wrong_the_first_is_told(self):
        right = (0, "upto", 1, 0, "most", "low", 1)
        for wrong in itertools.product((False, True), repeat=7):
            if any(wrong):
                for bad in (None, True, 5):
                    parts = [bad if is_wrong else part for is_wrong, part in zip(wrong, right)]
                    self.wrong(WORDS[wrong.index(True)], *parts)
                    self.wrong(WORDS[wrong.index(True)], **dict(reversed(list(zip(WORDS, parts)))))

    def test_equality(self):
        base = (0, "upto", 1, 0, "most", "low", 1)
        halves = Halves(*base)
        self.assertTrue(halves == Halves(*base) and not halves != Halves(*base))
        for at, values in enumerate(VALUES):
            for value in values:
                if value != base[at]:
                    other = Halves(*base[:at], value, *base[at + 1:])
                    self.assertTrue(halves != other and not halves == other, other.text())

    def test_a_loop_equals_nothing_else(self):
        for other in (None, parts_of(CLOSED), list(parts_of(CLOSED)), CLOSED.text(), 0, Halves, object(),
                      Average(2, 1, 1, 0, "notless"), Steps("upto", "half", 1, 0), HalvesRun((), "told", 0)):
            self.assertFalse(CLOSED == other)
            self.assertTrue(CLOSED != other)

    def test_texts(self):
        self.assertEqual(CLOSED.text(), "halves 1 upto 0 1 less low 0")
        self.assertEqual(Halves(0, "below", 1, 0, "most", "high", -1).text(), "halves 0 below 1 0 most high -1")
        for halves in all_halves():
            self.assertEqual(halves.text(), "halves " + " ".join([str(part) for part in parts_of(halves)]))


class RunTest(unittest.TestCase):
    def check(self, halves, sought, lo, hi):
        run = halves.run(sought, lo, hi)
        self.assertIsInstance(run, HalvesRun)
        self.assertIs(type(run.mids), tuple)
        wanted = plain_halves(halves, lambda x: plain_compare(sought.kind, sought.by, sought.n, x), lo, hi)
        self.assertEqual(three_of(run), wanted, (halves.text(), vars(sought), lo, hi))
        return run

    def test_by_place_and_by_name(self):
        sought = Sought("root", 2, 30)
        for run in (CLOSED.run(sought, 0, 10), CLOSED.run(hi=10, lo=0, sought=sought), CLOSED.run(sought, hi=10, lo=0)):
            self.assertEqual(three_of(run), ((5, 8, 6), "told", 5))

    def test_all_loops_with_each_kind_of_thing(self):
        things = [Sought("root", 2, 30), Sought("root", 3, 27), Sought("share", 7, 30), Sought("share", 5, 30),
                  Sought("log", 2, 30), Sought("log", 3, 27), Sought("root", 4, 0), Sought("log", 2, 1)]
        for halves, sought in itertools.product(all_halves(), things):
            for lo, hi in ((0, 10), (3, 12), (0, 1), (5, 6), (4, 4), (0, 0), (7, 20), (0, 3), (2, 31)):
                self.check(halves, sought, lo, hi)

    def test_rounds_of_each_stop(self):
        sought = Sought("root", 2, 30)
        self.assertEqual(three_of(Halves(0, "upto", 1, 0, "less", "low", -1).run(sought, 0, 8)),
                         ((4, 6, 5), "told", 5))
        self.assertEqual(three_of(Halves(0, "upto", 1, 1, "most", "high", 0).run(sought, 0, 8)),
                         ((4, 6, 5), "told", 5))
        self.assertEqual(three_of(Halves(0, "upto", 0, 0, "wide", "low", 0).run(sought, 0, 8)), ((4, 6, 5), "told", 5))
        self.assertEqual(three_of(Halves(1, "below", 0, 0, "wide", "high", 1).run(Sought("root", 2, 36), 0, 9)),
                         ((5, 7, 6), "told", 7))

    def test_swings_with_the_last_mid(self):
        sought = Sought("share", 1, 5)
        self.assertEqual(three_of(SWINGING.run(sought, 0, 10)), ((5, 7, 5), "swings", None))
        self.assertEqual(three_of(SWINGING.run(sought, 5, 6)), ((5,), "swings", None))
        self.assertEqual(three_of(Halves(1, "upto", 1, 0, "less", "low", 0).run(Sought("share", 2, 1), 0, 1)),
                         ((1,), "swings", None))
        self.assertEqual(three_of(Halves(0, "upto", 0, 1, "most", "low", 0).run(sought, 5, 5)), ((5,), "swings", None))

    def test_a_number_below_0(self):
        nought = Sought("root", 2, 0)
        for halves, hi, told in ((Halves(0, "below", 1, 1, "most", "high", 0), 0, -1),
                                 (Halves(0, "below", 1, 1, "most", "high", -1), 3, -2),
                                 (Halves(0, "below", 1, 1, "less", "low", -1), 0, -1),
                                 (Halves(1, "upto", 0, 0, "wide", "low", -1), 5, -1)):
            self.assertEqual(self.check(halves, nought, 0, hi).told, told, halves.text())

    def test_lo_equal_to_hi(self):
        for halves in all_halves():
            for answer, hit in itertools.product((0, 4, 5, 6), (False, True)):
                run = self.check(halves, thing_with(answer, hit), 5, 5)
                self.assertEqual(run.mids, (5,) if halves.stop == "most" else ())

    def test_brackets_beside_the_answer(self):
        for halves in all_halves()[::7]:
            for answer, lo, hi in itertools.product((0, 20), (8, 13), (13, 18)):
                self.check(halves, thing_with(answer, True), lo, hi)

    def test_great_numbers(self):
        for sought in (Sought("root", 2, 10 ** 60 - 1), Sought("share", 37, 10 ** 60), Sought("log", 2, 10 ** 300)):
            x = sought.answer()
            for halves in all_halves()[::5]:
                self.check(halves, sought, max(0, x - 990), x + 1007)
            self.assertEqual(CLOSED.run(sought, 0, x + 10 ** 3).told, x)
            self.assertEqual(OPEN.run(sought, 0, x + 10 ** 3).told, x)

    def test_thirty_thousand_figures(self):
        x = root(HUGE, 2)
        run = CLOSED.run(Sought("root", 2, HUGE), x - 10 ** 60, x + 2 ** 300)
        self.assertEqual((run.end, run.told), ("told", x))
        self.assertEqual(run.mids[0], (2 * x - 10 ** 60 + 2 ** 300 + 1) // 2)
        self.assertEqual(three_of(SWINGING.run(Sought("root", 2, HUGE), x, x + 1)), ((x,), "swings", None))

    def test_bad_brackets(self):
        sought = Sought("root", 2, 30)
        brackets = [(5, 4), (1, 0), (-1, 5), (-3, -2), (0, -1), (10 ** 30000, 5)]
        brackets += [(bad, 5) for bad in NO_NUMBERS] + [(0, bad) for bad in NO_NUMBERS]
        brackets += [(bad, bad) for bad in NO_NUMBERS]
        for lo, hi in brackets:
            for halves in (CLOSED, OPEN, SWINGING):
                with self.assertRaises(BadBracket) as caught:
                    halves.run(sought, lo, hi)
                self.assertEqual(vars(caught.exception), {})
        with self.assertRaises(BadBracket):
            CLOSED.run(hi=True, lo=0, sought=sought)

    def test_nothing_is_changed(self):
        sought, before = Sought("root", 2, 30), parts_of(CLOSED)
        CLOSED.run(sought, 0, 10)
        self.assertEqual(parts_of(CLOSED), before)
        self.assertEqual((sought.kind, sought.by, sought.n), ("root", 2, 30))


def plain_comes(halves, lo, hi, answer, hit):
    """The number told less the answer, or "swings"."""
    _, end, told = plain_halves(halves, compare_with(answer, hit), lo, hi)
    return "swings" if end == "swings" else told - answer


def plain_brackets(bracket, most):
    """(hi, answer, hit) of all brackets from 0 up to a greatest hi, in the order of the fault of [33]."""
    return [(hi, answer, hit) for hi in range(most + 1)
            for answer in range(hi + 1 if bracket == "closed" else hi) for hit in (False, True)]


class AllBracketsTest(unittest.TestCase):
    def test_by_place_and_by_name(self):
        halves = Halves(0, "upto", 1, 1, "less", "low", 0)
        for told in (halves_tells(halves, "closed"), halves_tells(bracket="closed", halves=halves)):
            self.assertEqual(told, (0, 1))
        for found in (halves_fault(halves, "closed"), halves_fault(bracket="closed", halves=halves)):
            self.assertEqual(found, (0, 1, 0, False))
            self.assertIs(found[3], False)

    def test_known_loops(self):
        self.assertEqual((halves_tells(CLOSED, "closed"), halves_fault(CLOSED, "closed")), ((0,), None))
        self.assertEqual((halves_tells(OPEN, "open"), halves_fault(OPEN, "open")), ((0,), None))
        # A bracket from 0 to 1 with the answer 1 is closed, not open.
        self.assertEqual((halves_tells(OPEN, "closed"), halves_fault(OPEN, "closed")), ((-1, 0), (0, 1, 1, False)))
        self.assertEqual(halves_tells(SWINGING, "closed"), (0, "swings"))
        self.assertEqual(halves_fault(SWINGING, "closed"), (0, 1, 0, False))

    def test_all_loops_against_runs_in_all_small_brackets(self):
        for halves, bracket in itertools.product(all_halves(), ("closed", "open")):
            came = [(start, plain_comes(halves, 0, *start)) for start in plain_brackets(bracket, 13)]
            outcomes = {outcome for _, outcome in came}
            numbers = sorted(outcomes - {"swings"})
            wanted = tuple(numbers) + (("swings",) if "swings" in outcomes else ())
            told = halves_tells(halves, bracket)
            self.assertIs(type(told), tuple)
            self.assertEqual(told, wanted, (halves.text(), bracket))
            faults = [(0,) + start for start, outcome in came if outcome != 0]
            found = halves_fault(halves, bracket)
            self.assertEqual(found, faults[0] if faults else None, (halves.text(), bracket))
            self.assertIs(found is None, told == (0,))
            if found is not None:
                self.assertIs(type(found), tuple)
                self.assertIs(type(found[3]), bool)

    def test_wide_brackets_bring_nothing_else(self):
        for halves, bracket in itertools.product(all_halves(), ("closed", "open")):
            told = halves_tells(halves, bracket)
            for width, hit in itertools.product((37, 64, 1000, 10 ** 9 + 1), (False, True)):
                for behind in (0, 1, 2, width // 3, width // 2, width - 2, width - 1, width):
                    if behind < width or bracket == "closed":
                        self.assertIn(plain_comes(halves, 20, 20 + width, 20 + behind, hit), told, halves.text())

    def test_where_lo_lies_does_not_matter(self):
        for halves in all_halves()[::11]:
            for hi, answer, hit in plain_brackets("closed", 7):
                for more in (1, 2, 3, 100):
                    self.assertEqual(plain_comes(halves, more, hi + more, answer + more, hit),
                                     plain_comes(halves, 0, hi, answer, hit))

    def test_faults_are_runs_that_do_not_tell_the_answer(self):
        for halves, bracket in itertools.product(all_halves(), ("closed", "open")):
            found = halves_fault(halves, bracket)
            if found is not None:
                lo, hi, answer, hit = found
                for sought in (Sought("share", 3, 3 * answer + (not hit)),
                               Sought("log", 5, 5 ** answer + (not hit)),
                               thing_with(answer, hit)):
                    self.assertEqual((sought.answer(), sought.is_hit()), (answer, hit))
                    self.assertNotEqual(halves.run(sought, lo, hi).told, answer)

    def test_there_are_right_ones_and_faults_of_each_kind(self):
        closed = [halves for halves in all_halves() if halves_fault(halves, "closed") is None]
        opened = [halves for halves in all_halves() if halves_fault(halves, "open") is None]
        self.assertIn(CLOSED, closed)
        self.assertIn(OPEN, opened)
        self.assertNotIn(OPEN, closed)
        faults = [halves_fault(halves, "closed") for halves in all_halves()]
        self.assertEqual({fault[3] for fault in faults if fault}, {False, True})
        self.assertGreater(len({fault[1] for fault in faults if fault}), 2)

    def test_bad_kinds(self):
        for bad in NO_WORDS + ("Closed", "open ", "half", 10 ** 30000, ("closed",), ["open"]):
            for call in (halves_tells, halves_fault):
                with self.assertRaises(BadKind) as caught:
                    call(CLOSED, bad)
                self.assertIs(caught.exception.value, bad)
                with self.assertRaises(BadKind):
                    call(bracket=bad, halves=OPEN)


if __name__ == "__main__":
    unittest.main()
