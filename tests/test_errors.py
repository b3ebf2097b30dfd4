"""Section 2 and the interface: the error classes."""

import inspect
import unittest

from fitruns import errors
from fitruns.errors import FitError
from tests.support import ANY_VALUES

WORDS = {
    "BadProgram": "value", "NoStep": "value", "NoKind": "value", "BadLength": "value", "BadQuestion": "value",
    "BadRun": "value", "BadRange": "value", "BadCounters": "value", "BadKinds": "value", "BadPlan": "value",
    "BadSheet": "value", "BadTick": "value", "NoRun": "value", "NoFit": "run", "BadLengths": "value",
    "BadPrices": "value", "BadCount": "value", "TooMany": "number", "BadImages": "value", "BadName": "value",
    "Taken": "name", "NoCase": "value", "Closed": "name", "NoStrand": "value", "BadCounts": "value",
    "Over": "strand", "TooLong": "ticks", "Stuck": "t", "Uneven": "ticks", "NoReading": "value",
    "NoWatch": "value", "BadRewriting": "value", "Unfaithful": "run", "BadText": "line", "BadLine": "line",
}


def class_of(name):
    return getattr(errors, name)


class TestErrors(unittest.TestCase):
    def test_the_base_is_a_value_error(self):
        self.assertTrue(inspect.isclass(FitError))
        self.assertIn(ValueError, FitError.__bases__)
        self.assertEqual(FitError.__module__, "fitruns.errors")

    def test_each_class_is_there_and_derives_directly_from_the_base(self):
        for name in list(WORDS) + ["NothingToUndo"]:
            with self.subTest(name):
                self.assertTrue(inspect.isclass(class_of(name)))
                self.assertEqual(class_of(name).__bases__, (FitError,))
                self.assertEqual(class_of(name).__name__, name)
                self.assertEqual(class_of(name).__module__, "fitruns.errors")

    def test_each_class_is_another_one(self):
        classes = [class_of(name) for name in list(WORDS) + ["NothingToUndo"]]
        self.assertEqual(len(set(classes)), 36)

    def test_an_argument_by_position_is_kept_under_its_name(self):
        for name, word in WORDS.items():
            for value in ANY_VALUES:
                before = repr(value)
                error = class_of(name)(value)
                self.assertIs(getattr(error, word), value, name)
                self.assertEqual(repr(value), before)

    def test_an_argument_by_name_is_kept_under_its_name(self):
        for name, word in WORDS.items():
            for value in ANY_VALUES:
                error = class_of(name)(**{word: value})
                self.assertIs(getattr(error, word), value, name)

    def test_two_errors_keep_what_is_theirs(self):
        for name, word in WORDS.items():
            one, other = class_of(name)("one"), class_of(name)(["other"])
            self.assertEqual([getattr(one, word), getattr(other, word)], ["one", ["other"]], name)

    def test_each_class_is_raised_and_caught(self):
        for name, word in WORDS.items():
            for base in (class_of(name), FitError, ValueError):
                with self.assertRaises(base) as caught:
                    raise class_of(name)(("a", 1))
                self.assertIs(type(caught.exception), class_of(name))
                self.assertEqual(getattr(caught.exception, word), ("a", 1))

    def test_nothing_to_undo_is_raised_without_an_argument(self):
        for base in (errors.NothingToUndo, FitError, ValueError):
            with self.assertRaises(base) as caught:
                raise errors.NothingToUndo()
            self.assertIs(type(caught.exception), errors.NothingToUndo)


if __name__ == "__main__":
    unittest.main()
