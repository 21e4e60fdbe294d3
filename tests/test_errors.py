"""Points 2 and 21: the errors."""

import unittest

from onlytell import errors
from onlytell.errors import OnlyError
from tests.helpers import ANY_VALUES, nested, same

NAMES = (
    "BadBook Unnamed Upward NoDeed BadDeeds BadStore BadRow NoKey Gone BadWorth Lasting OtherStore BadInput "
    "BadMemory BadMachine BadState BadLetter Unlike TooMany BadOffers BadWish BadPrices BadLetters BadRows "
    "BadWishes BadKeys BadHands BadSteps BadTelling NoEffect OtherBook Stuck BadSwitch OtherPreview Showing "
    "Spoilt BadLine"
).split()

VALUES = ANY_VALUES + (nested(30),)


def error_classes():
    return [getattr(errors, name) for name in NAMES]


class Bases(unittest.TestCase):
    def test_only_error_is_a_value_error(self):
        self.assertEqual(OnlyError.__bases__, (ValueError,))

    def test_each_error_stands_directly_below_only_error(self):
        for error in error_classes():
            with self.subTest(error=error):
                self.assertEqual(error.__bases__, (OnlyError,))

    def test_there_are_these_errors_and_no_others(self):
        here = [name for name, thing in vars(errors).items() if isinstance(thing, type)]
        self.assertEqual(sorted(here), sorted(NAMES + ["OnlyError"]))
        self.assertEqual(len(set(error_classes())), len(NAMES))

    def test_each_error_has_its_name(self):
        for name in NAMES:
            self.assertEqual(getattr(errors, name).__name__, name)

    def test_no_error_stands_below_another_one(self):
        for error in error_classes():
            for other in error_classes():
                self.assertEqual(issubclass(error, other), error is other)


class Values(unittest.TestCase):
    def test_each_error_keeps_any_value(self):
        for error in [OnlyError] + error_classes():
            for value in VALUES:
                with self.subTest(error=error, value=value):
                    self.assertTrue(same(error(value).value, value))

    def test_the_value_is_the_argument_itself(self):
        value = [1, {"a": (True, 1)}]
        for error in [OnlyError] + error_classes():
            self.assertIs(error(value).value, value)
        self.assertTrue(same(value, [1, {"a": (True, 1)}]))

    def test_the_value_may_be_passed_by_its_name(self):
        for error in [OnlyError] + error_classes():
            self.assertEqual(error(value=(1, "x")).value, (1, "x"))

    def test_an_error_without_a_value_cannot_be_created(self):
        for error in [OnlyError] + error_classes():
            with self.assertRaises(TypeError):
                error()


class Catching(unittest.TestCase):
    def check_caught(self, error, catcher, value):
        try:
            raise error(value)
        except catcher as caught:
            self.assertIs(type(caught), error)
            self.assertTrue(same(caught.value, value))

    def test_each_error_is_caught_as_itself_and_by_its_bases(self):
        for error in [OnlyError] + error_classes():
            for catcher in (error, OnlyError, ValueError):
                for value in VALUES:
                    self.check_caught(error, catcher, value)

    def test_no_error_is_caught_by_another_one(self):
        for error in [OnlyError] + error_classes():
            for other in error_classes():
                if other is not error:
                    with self.assertRaises(error):
                        self.check_caught(error, other, 1)


if __name__ == "__main__":
    unittest.main()
