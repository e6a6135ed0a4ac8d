"""Promise [35]: floorward/texts.py."""

import itertools
import unittest

from floorward.averages import Average
from floorward.errors import BadText
from floorward.halves import Halves
from floorward.steps import Steps
from floorward.texts import read_loop
from tests.plain import all_halves, all_stepping, some_loops

SIGNS = " -+0123456789abcdefghijklmnopqrstuvwxyzN\n\t.,_"
SOME = (Average(2, 1, 1, 0, "notless"), Average(3, 4, 2, -4, "near2", "more", "both"),
        Average(4, 5, 1, 6, "held", "old", "up"), Halves(1, "below", 0, 1, "wide", "high", -1),
        Halves(0, "upto", 1, 0, "most", "low", 0), Steps("upto", "double", 2, -1), Steps("below", "half", 1, 1))


def every_loop():
    return some_loops(1) + all_halves() + all_stepping()


class ReadLoopTest(unittest.TestCase):
    @classmethod
    def setUpClass(cls):
        cls.texts = {loop.text() for loop in every_loop()}

    def refused(self, text):
        with self.assertRaises(BadText, msg=repr(text[:200])) as caught:
            read_loop(text)
        self.assertEqual(vars(caught.exception), {})

    def check(self, text):
        """The text is read if it is that of a loop, otherwise refused."""
        if text in self.texts:
            self.assertEqual(read_loop(text).text(), text)
        else:
            self.refused(text)

    def test_by_place_and_by_name(self):
        self.assertEqual(read_loop("average 2 1 1 0 notless old none"), Average(2, 1, 1, 0, "notless"))
        self.assertEqual(read_loop(text="halves 1 upto 0 1 less low -1"), Halves(1, "upto", 0, 1, "less", "low", -1))
        self.assertEqual(read_loop(text="steps below half 2 1"), Steps("below", "half", 2, 1))

    def test_all_loops_and_no_two_with_one_text(self):
        loops = every_loop()
        self.assertEqual(len(self.texts), len(loops))
        for loop in loops:
            again = read_loop(loop.text())
            self.assertIs(type(again), type(loop))
            self.assertEqual(again, loop)
            self.assertIsNot(again, loop)

    def test_one_sign_more_less_or_another_one(self):
        for loop in SOME:
            text = loop.text()
            for at in range(len(text) + 1):
                self.check(text[:at] + text[at + 1:])
                for sign in SIGNS:
                    self.check(text[:at] + sign + text[at:])
                    self.check(text[:at] + sign + text[at + 1:])

    def test_words_doubled_left_out_or_exchanged(self):
        for loop in SOME:
            words = loop.text().split(" ")
            for at in range(len(words)):
                self.check(" ".join(words[:at] + words[at + 1:]))
                self.check(" ".join(words[:at] + [words[at]] * 2 + words[at + 1:]))
                for other in range(at):
                    changed = list(words)
                    changed[at], changed[other] = words[other], words[at]
                    self.check(" ".join(changed))

    def test_words_of_other_loops(self):
        every = sorted({word for loop in SOME for word in loop.text().split(" ")})
        read = 0
        for loop in SOME:
            words = loop.text().split(" ")
            for at, word in itertools.product(range(len(words)), every):
                text = " ".join(words[:at] + [word] + words[at + 1:])
                self.check(text)
                read += text in self.texts
        self.assertGreater(read, len(SOME))

    def test_numbers_written_otherwise(self):
        for before, after in (("average 2 1 1 ", " notless old none"), ("halves 1 upto 0 1 less low ", ""),
                              ("steps upto half 1 ", "")):
            self.assertEqual(read_loop(before + "1" + after).text(), before + "1" + after)
            for number in ("+1", "01", "001", " 1", "1 ", "1.0", "1_", "0_1", "0x1", "1e0", "--1", "- 1", "-01", "-0",
                           "+0", "00", "\u0661", "\uff11", "\u00b9", "\u2460", "\u22121", "one", "", "True", "None",
                           "1\n", "\n1", "\t1", "1\u00a0", "2" * 5000, "-" + "9" * 10000, "0" * 5000 + "1"):
                self.refused(before + number + after)

    def test_signs_around(self):
        for loop in SOME:
            for ahead, behind in (("", " "), (" ", ""), ("", "\n"), ("\n", ""), ("\t", ""), ("", "\r\n"), ("\ufeff", ""),
                                  ("", "\0"), ("'", "'")):
                self.refused(ahead + loop.text() + behind)
            self.refused(loop.text().replace(" ", "  "))
            self.refused(loop.text().replace(" ", "\t"))
            self.refused(loop.text().replace(" ", "\u00a0"))
            self.refused(loop.text().replace(" ", ""))
            self.refused(loop.text().upper())
            self.refused(loop.text().title())
            self.refused(loop.text() + " " + loop.text())

    def test_other_strings(self):
        for text in ("", " ", "average", "halves", "steps", "average ", "halves       ", "steps    ", "none", "x" * 10 ** 6,
                     " " * 10 ** 5, "average " * 10 ** 4, "average 2 1 1 0 notless old none".replace("old", "o" * 10 ** 6),
                     "share 3 2", "power 1", "root 2 5", "\ud800", "average 2 1 1 0 under new none",
                     "average 2 1 1 0 notless old", "average 2 1 2 0 notless old none", "average 5 4 1 0 back old none"):
            self.refused(text)

    def test_the_words_of_one_class_with_another(self):
        for one, other in itertools.product(SOME, SOME):
            if type(one) is not type(other):
                name = other.text().split(" ")[0]
                self.refused(" ".join([name] + one.text().split(" ")[1:]))


if __name__ == "__main__":
    unittest.main()
