"""Promise [30]: floorward/sought.py."""

import itertools
import unittest

from floorward.errors import BadSought
from floorward.numbers import root
from floorward.sought import Sought, thing_with
from tests.plain import HUGE, compare_with, plain_answer, plain_compare
from tests.wrong import NO_INTEGERS, NO_NUMBERS, NO_WORDS

KINDS = ("root", "share", "log")


class PartsTest(unittest.TestCase):
    def wrong(self, word, *parts, **named):
        with self.assertRaises(BadSought) as caught:
            Sought(*parts, **named)
        self.assertEqual(vars(caught.exception), {"word": word}, (parts, named))

    def test_by_place_and_by_name(self):
        for sought in (Sought("root", 3, 30), Sought("root", n=30, by=3), Sought(n=30, by=3, kind="root")):
            self.assertEqual((sought.kind, sought.by, sought.n), ("root", 3, 30))
            self.assertEqual((sought.compare(3), sought.compare(x=4)), (-1, 1))
            self.assertEqual((sought.answer(), sought.is_hit()), (3, False))

    def test_exactly_the_possible_parts(self):
        for kind, by, n in itertools.product(KINDS, range(-2, 68), (-1, 0, 1, 2, HUGE)):
            least = 1 if kind == "log" else 0
            if not 1 + least <= by <= 64:
                self.wrong("by", kind, by, n)
            elif n < least:
                self.wrong("n", kind, by, n)
            else:
                sought = Sought(kind, by, n)
                self.assertEqual((sought.kind, sought.by, sought.n), (kind, by, n))

    def test_each_part_wrong_alone(self):
        for bad in NO_WORDS + ("upto", "roots", "Root", 10 ** 30000):
            self.wrong("kind", bad, 2, 5)
            self.wrong("kind", n=5, kind=bad, by=2)
        for kind in KINDS:
            for bad in NO_INTEGERS + (-1, 0, 65, 10 ** 30000):
                self.wrong("by", kind, bad, 5)
            for bad in NO_NUMBERS:
                self.wrong("n", kind, 2, bad)
                self.wrong("n", n=bad, kind=kind, by=2)
        self.wrong("by", "log", 1, 5)
        self.wrong("n", "log", 2, 0)

    def test_several_wrong_the_first_is_told(self):
        for bad, worse, worst in itertools.product((None, True, "x", [1]), (0, None, True), (-1, None, "n")):
            self.wrong("kind", bad, worse, worst)
            self.wrong("kind", bad, 2, worst)
            self.wrong("kind", bad, worse, 5)
            for kind in KINDS:
                self.wrong("by", kind, worse, worst)
        self.wrong("by", "log", 1, 0)
        self.wrong("kind", "logs", 1, 0)


class CompareTest(unittest.TestCase):
    def test_all_small_things(self):
        for kind, by, n, x in itertools.product(KINDS, (1, 2, 3, 5, 10), range(40), range(12)):
            if kind != "log" or by > 1 and n > 0:
                self.assertEqual(Sought(kind, by, n).compare(x), plain_compare(kind, by, n, x), (kind, by, n, x))

    def test_below_at_and_above_great_answers(self):
        for kind, by in itertools.product(KINDS, (2, 3, 7, 32, 63, 64)):
            for x in (1, 2, 3, 63, 200, 1000):
                worth = {"root": x ** by, "share": by * x, "log": by ** x}[kind]
                for n, wanted in ((worth - 1, 1), (worth, 0), (worth + 1, -1)):
                    self.assertEqual(Sought(kind, by, n).compare(x), wanted, (kind, by, x))
                sought = Sought(kind, by, worth)
                self.assertEqual([sought.compare(x + more) for more in (-1, 0, 1, 50)], [-1, 0, 1, 1])

    def test_0_and_1(self):
        self.assertEqual([Sought("root", 64, 0).compare(x) for x in (0, 1, 2)], [0, 1, 1])
        self.assertEqual([Sought("root", 64, 1).compare(x) for x in (0, 1, 2)], [-1, 0, 1])
        self.assertEqual([Sought("share", 64, 0).compare(x) for x in (0, 1)], [0, 1])
        self.assertEqual([Sought("log", 64, 1).compare(x) for x in (0, 1)], [0, 1])
        self.assertEqual([Sought("log", 64, 2).compare(x) for x in (0, 1)], [-1, 1])

    def test_far_above_the_answer(self):
        for by in (1, 2, 63, 64):
            self.assertEqual(Sought("root", by, 7).compare(HUGE), 1)
            self.assertEqual(Sought("share", by, 7).compare(HUGE), 1)
        for by in (2, 3, 64):
            self.assertEqual([Sought("log", by, 7).compare(x) for x in (8, 4999, 5000)], [1, 1, 1])

    def test_thirty_thousand_figures(self):
        for by in (1, 2, 5, 64):
            x = root(HUGE, by)
            self.assertEqual(Sought("root", by, x ** by).compare(x), 0)
            self.assertEqual(Sought("root", by, x ** by - 1).compare(x), 1)
            self.assertEqual(Sought("root", by, HUGE).compare(x + 1), 1)
            self.assertEqual(Sought("share", by, HUGE).compare(HUGE // by), 0 if HUGE % by == 0 else -1)
        self.assertEqual([Sought("log", 64, 64 ** 5000 + more).compare(5000) for more in (-1, 0, 1)], [1, 0, -1])


class AnswerTest(unittest.TestCase):
    def check(self, kind, by, n):
        sought = Sought(kind, by, n)
        x = sought.answer()
        self.assertIs(type(x), int)
        self.assertLessEqual(plain_compare(kind, by, n, x), 0, (kind, by, n))
        self.assertEqual(plain_compare(kind, by, n, x + 1), 1, (kind, by, n))
        self.assertIs(sought.is_hit(), plain_compare(kind, by, n, x) == 0, (kind, by, n))
        return x

    def test_all_small_things(self):
        for kind, by, n in itertools.product(KINDS, (1, 2, 3, 5, 64), range(130)):
            if kind != "log" or by > 1 and n > 0:
                self.assertEqual(self.check(kind, by, n), plain_answer(kind, by, n))

    def test_beside_measures_and_at_them(self):
        for kind, by in itertools.product(KINDS, (2, 3, 10, 63, 64)):
            for x in (1, 2, 3, 10, 63, 64, 65, 500):
                worth = {"root": x ** by, "share": by * x, "log": by ** x}[kind]
                self.assertEqual([self.check(kind, by, worth + more) for more in (-1, 0, 1)], [x - 1, x, x])
                self.assertEqual([Sought(kind, by, worth + more).is_hit() for more in (0, 1)], [True, False])

    def test_0_and_1(self):
        for by in (1, 2, 64):
            self.assertEqual((self.check("root", by, 0), self.check("root", by, 1)), (0, 1))
            self.assertEqual((self.check("share", by, 0), self.check("share", by, 1)), (0, 1 if by == 1 else 0))
            self.assertIs(Sought("root", by, 0).is_hit(), True)
            self.assertIs(Sought("share", by, 0).is_hit(), True)
        self.assertIs(Sought("share", 2, 1).is_hit(), False)
        for by in (2, 3, 64):
            self.assertEqual(self.check("log", by, 1), 0)
            self.assertIs(Sought("log", by, 1).is_hit(), True)
        self.assertIs(Sought("log", 3, 2).is_hit(), False)

    def test_all_powers_two_and_up(self):
        for by in range(1, 65):
            self.assertEqual(self.check("root", by, 10 ** 200), root(10 ** 200, by))
            self.assertEqual(self.check("share", by, 10 ** 200), 10 ** 200 // by)
            if by > 1:
                self.check("log", by, 10 ** 200)

    def test_thirty_thousand_figures(self):
        for by in (1, 2, 3, 64):
            self.assertEqual(self.check("root", by, HUGE), root(HUGE, by))
            self.assertEqual(self.check("share", by, HUGE), HUGE // by)
        self.assertEqual(self.check("log", 2, HUGE), HUGE.bit_length() - 1)
        self.assertEqual(self.check("log", 64, HUGE), (HUGE.bit_length() - 1) // 6)
        self.assertEqual(self.check("log", 10, HUGE), 29999)
        self.assertEqual(self.check("log", 10, 10 ** 29999), 29999)
        self.assertEqual(self.check("log", 10, 10 ** 29999 - 1), 29998)

    def test_nothing_is_changed(self):
        sought = Sought("log", 3, 81)
        sought.answer(), sought.is_hit(), sought.compare(4)
        self.assertEqual((sought.kind, sought.by, sought.n), ("log", 3, 81))


class ThingWithTest(unittest.TestCase):
    def test_the_answer_and_whether_it_is_hit(self):
        for answer, hit in itertools.product(range(20), (False, True)):
            thing = thing_with(answer, hit)
            self.assertEqual((thing.answer(), thing.is_hit()), (answer, hit))
            compare = compare_with(answer, hit)
            self.assertEqual([thing.compare(x) for x in range(40)], [compare(x) for x in range(40)])

    def test_all_things_with_one_answer_compare_alike(self):
        for kind, by, n in itertools.product(KINDS, (2, 3, 5), range(1, 90)):
            thing = Sought(kind, by, n)
            other = thing_with(thing.answer(), thing.is_hit())
            self.assertEqual([thing.compare(x) for x in range(50)], [other.compare(x) for x in range(50)])


if __name__ == "__main__":
    unittest.main()
