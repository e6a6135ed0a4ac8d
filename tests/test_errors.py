"""Promises [5], [36] and [39] under floorward/errors.py."""

import unittest

from floorward import errors

WITH_ATTRIBUTE = {"BadNumber": "value", "BadPower": "value", "BadLoop": "word", "BadStart": "value",
                  "BadField": "field", "BadBeginning": "word", "BadSought": "word", "BadKind": "value"}
WITHOUT = ("BadGuesses", "BadBracket", "BadText", "UnlikePowers", "UnlikeSteps", "NoGuess")
NAMES = tuple(WITH_ATTRIBUTE) + WITHOUT


class Strange:
    """An object that can be neither compared nor shown."""

    def __eq__(self, other):
        raise RuntimeError("not to be compared")

    def __repr__(self):
        raise RuntimeError("not to be shown")


ANYTHING = (None, True, False, 0, -1, 10 ** 30000, 2.5, float("nan"), "", "word", b"x", (), [], {}, [1, [2]],
            Strange(), Strange, ValueError("x"))


def made(name):
    kind = getattr(errors, name)
    return kind("x") if name in WITH_ATTRIBUTE else kind()


class ErrorsTest(unittest.TestCase):
    def test_floor_error_is_a_direct_subclass_of_value_error(self):
        self.assertEqual(errors.FloorError.__bases__, (ValueError,))

    def test_all_are_direct_subclasses_of_floor_error(self):
        for name in NAMES:
            kind = getattr(errors, name)
            self.assertEqual(kind.__bases__, (errors.FloorError,), name)
            self.assertEqual((kind.__name__, kind.__module__), (name, "floorward.errors"))

    def test_there_are_no_others(self):
        kinds = [name for name, thing in vars(errors).items() if isinstance(thing, type)]
        self.assertEqual(sorted(kinds), sorted(NAMES + ("FloorError",)))

    def test_each_is_of_its_class_and_of_no_other_of_the_package(self):
        for name in NAMES:
            error = made(name)
            self.assertIsInstance(error, errors.FloorError)
            self.assertIsInstance(error, ValueError)
            of = [other for other in NAMES if isinstance(error, getattr(errors, other))]
            self.assertEqual(of, [name])

    def test_attributes_hold_the_very_thing_passed(self):
        for name, attribute in WITH_ATTRIBUTE.items():
            for thing in ANYTHING:
                by_position = getattr(errors, name)(thing)
                by_name = getattr(errors, name)(**{attribute: thing})
                for error in (by_position, by_name):
                    self.assertEqual(list(vars(error)), [attribute])
                    self.assertIs(getattr(error, attribute), thing)

    def test_messages_can_be_shown_whatever_was_passed(self):
        for name in WITH_ATTRIBUTE:
            for thing in ANYTHING:
                self.assertIsInstance(str(getattr(errors, name)(thing)), str)

    def test_attribute_is_a_must(self):
        for name in WITH_ATTRIBUTE:
            with self.assertRaises(TypeError):
                getattr(errors, name)()

    def test_the_others_have_no_attributes(self):
        for name in WITHOUT:
            self.assertEqual(vars(made(name)), {})
        self.assertEqual(vars(errors.FloorError()), {})

    def test_raised_and_caught_by_each_name_above(self):
        for name in NAMES:
            for kind in (getattr(errors, name), errors.FloorError, ValueError):
                with self.assertRaises(kind):
                    raise made(name)


if __name__ == "__main__":
    unittest.main()
