"""Promises [24] and [25]: floorward/choosing.py."""

import unittest
from unittest import mock

from floorward.averages import Average
from floorward.choosing import changed, mends, right_values
from floorward.errors import BadField, BadLoop
from floorward.verdicts import is_right
from tests.plain import MENDS, STOPS, TELLINGS, some_loops

KNOWN = Average(2, 1, 1, 0, "notless")
FIELDS = ("a", "c", "d", "stop", "told", "mend")
VALUES = {"a": range(-9, 10), "c": range(-9, 10), "d": range(-20, 21), "stop": STOPS, "told": TELLINGS, "mend": MENDS}
NO_FIELDS = ("k", "", "A", "stop ", "text", "step", b"a", None, 0, 1, True, 1.0, ("a",), ["a"], {"a"}, {"a": 1},
             object(), str, mock.ANY, 10 ** 30000)


def parts_of(loop):
    return {"k": loop.k, "a": loop.a, "c": loop.c, "d": loop.d, "stop": loop.stop, "told": loop.told,
            "mend": loop.mend}


def plain_changed(loop, field, value):
    """The loop with this value, or the word of the error."""
    try:
        return Average(**{**parts_of(loop), field: value})
    except BadLoop as error:
        return error.word


def plain_right(loop, field):
    """The pairs of value and loop that are possible and right, in order."""
    pairs = [(value, plain_changed(loop, field, value)) for value in VALUES[field]]
    return [(value, other) for value, other in pairs if isinstance(other, Average) and is_right(other)]


class ChangedTest(unittest.TestCase):
    def test_by_place_and_by_name(self):
        self.assertEqual(changed(KNOWN, "stop", "equal"), Average(2, 1, 1, 0, "equal"))
        self.assertEqual(changed(value="equal", loop=KNOWN, field="stop"), Average(2, 1, 1, 0, "equal"))
        self.assertEqual(changed(field="d", loop=KNOWN, value=2), Average(2, 1, 1, 2, "notless"))

    def test_each_value_of_each_field(self):
        for loop in some_loops(337):
            before = parts_of(loop)
            for field in FIELDS:
                for value in VALUES[field]:
                    wanted = plain_changed(loop, field, value)
                    if isinstance(wanted, Average):
                        self.assertEqual(changed(loop, field, value), wanted)
                    else:
                        with self.assertRaises(BadLoop) as caught:
                            changed(loop, field, value)
                        self.assertEqual(caught.exception.word, wanted, (loop.text(), field, value))
            self.assertEqual(parts_of(loop), before)

    def test_the_value_that_it_has(self):
        for loop in some_loops(499):
            for field in FIELDS:
                same = changed(loop, field, parts_of(loop)[field])
                self.assertEqual(same, loop)
                self.assertIsNot(same, loop)

    def test_a_value_that_does_not_go_with_the_other_parts(self):
        more = Average(3, 4, 2, 6, "equal", "more")
        for field, value, word in (("a", 5, "c"), ("a", 3, "c"), ("c", 1, "d"), ("c", 3, "c"), ("stop", "held", "told"),
                                   ("stop", "under", "told"), ("d", 7, "d"), ("a", 6, "a"), ("a", 0, "a")):
            with self.assertRaises(BadLoop) as caught:
                changed(more, field, value)
            self.assertEqual(caught.exception.word, word, (field, value))

    def test_any_object_as_value(self):
        for field in FIELDS:
            for value in (None, True, 1.0, "1", b"equal", "EQUAL", (), [1], {}, object(), int, mock.ANY, 10 ** 30000):
                with self.assertRaises(BadLoop) as caught:
                    changed(KNOWN, field, value)
                self.assertEqual(caught.exception.word, field)

    def test_no_fields(self):
        for field in NO_FIELDS:
            for value in (0, "equal", None):
                with self.assertRaises(BadField) as caught:
                    changed(KNOWN, field, value)
                self.assertIs(caught.exception.field, field)


class RightValuesTest(unittest.TestCase):
    def test_by_place_and_by_name(self):
        wanted = ["notless", "under", "held"]
        self.assertEqual(right_values(KNOWN, "stop"), wanted)
        self.assertEqual(right_values(field="stop", loop=KNOWN), wanted)
        self.assertEqual(right_values(KNOWN, "told"), ["old", "less"])
        self.assertEqual(right_values(KNOWN, "mend"), ["none", "down", "up", "both"])
        self.assertEqual(right_values(KNOWN, "a"), [1, 2, 3, 4, 5])
        self.assertEqual(right_values(KNOWN, "c"), [1])
        self.assertEqual(right_values(KNOWN, "d"), [0])
        self.assertEqual(right_values(Average(2, 1, 1, 1, "notless"), "mend"), ["down", "both"])

    def test_the_right_ones_of_all_values_in_order(self):
        for loop in some_loops(211):
            for field in FIELDS:
                wanted = [value for value, _ in plain_right(loop, field)]
                found = right_values(loop, field)
                self.assertIs(type(found), list)
                self.assertEqual(found, wanted, (loop.text(), field))

    def test_the_list_is_a_new_one(self):
        right_values(KNOWN, "told").clear()
        right_values(KNOWN, "told").append("new")
        self.assertEqual(right_values(KNOWN, "told"), ["old", "less"])
        self.assertEqual(changed(KNOWN, "told", "more"), Average(2, 1, 1, 0, "notless", "more"))

    def test_no_fields(self):
        for field in NO_FIELDS:
            with self.assertRaises(BadField) as caught:
                right_values(KNOWN, field)
            self.assertIs(caught.exception.field, field)


class MendsTest(unittest.TestCase):
    def test_by_place_and_by_name(self):
        wanted = [Average(2, 2, 1, 0, "equal"), Average(2, 3, 1, 0, "equal"), Average(2, 4, 1, 0, "equal"),
                  Average(2, 5, 1, 0, "equal"), Average(2, 1, 1, 0, "notless"), Average(2, 1, 1, 0, "under"),
                  Average(2, 1, 1, 0, "held")]
        self.assertEqual(mends(Average(2, 1, 1, 0, "equal")), wanted)
        self.assertEqual(mends(loop=Average(2, 1, 1, 0, "equal")), wanted)

    def test_the_right_ones_of_all_fields_in_order(self):
        for loop in some_loops(199):
            wanted = [other for field in FIELDS for value, other in plain_right(loop, field)
                      if value != parts_of(loop)[field]]
            found = mends(loop)
            self.assertIs(type(found), list)
            self.assertEqual(found, wanted, loop.text())
            self.assertEqual([other for other in found if other == loop or found.count(other) > 1], [])
            for other in found:
                self.assertIs(is_right(other), True)

    def test_a_right_loop_is_none_of_its_own_mends(self):
        self.assertIs(is_right(KNOWN), True)
        self.assertNotIn(KNOWN, mends(KNOWN))
        self.assertEqual([other.text() for other in mends(KNOWN)][:6],
                         ["average 2 2 1 0 notless old none", "average 2 3 1 0 notless old none",
                          "average 2 4 1 0 notless old none", "average 2 5 1 0 notless old none",
                          "average 2 1 1 0 under old none", "average 2 1 1 0 held old none"])

    def test_the_list_is_a_new_one(self):
        count = len(mends(KNOWN))
        mends(KNOWN).clear()
        self.assertEqual(len(mends(KNOWN)), count)


if __name__ == "__main__":
    unittest.main()
