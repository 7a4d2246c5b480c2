"""Promises 2 and 18: the errors, their parameters and their base classes."""

import unittest

from evenlead import errors
from tests.values import ODD_VALUES

WITH_PARAMETER = {
    "BadPacer": "part",
    "BadStepper": "part",
    "BadText": "line",
    "Uneven": "paper",
    "NotTold": "pair",
    "BadLetter": "thing",
}
WITHOUT_PARAMETER = ("NothingToUndo", "InvalidCommand")
ALL_NAMES = (*WITH_PARAMETER, *WITHOUT_PARAMETER)


def error_class(name):
    return getattr(errors, name)


class ParameterTest(unittest.TestCase):
    def test_by_position(self):
        for name, parameter in WITH_PARAMETER.items():
            for value in ODD_VALUES:
                with self.subTest(name=name):
                    self.assertIs(getattr(error_class(name)(value), parameter), value)

    def test_by_name(self):
        for name, parameter in WITH_PARAMETER.items():
            for value in ODD_VALUES:
                with self.subTest(name=name):
                    self.assertIs(getattr(error_class(name)(**{parameter: value}), parameter), value)

    def test_the_parameter_is_needed(self):
        for name in WITH_PARAMETER:
            with self.subTest(name=name), self.assertRaises(TypeError):
                error_class(name)()

    def test_raised_and_caught(self):
        for name, parameter in WITH_PARAMETER.items():
            value = [name]
            with self.subTest(name=name):
                with self.assertRaises(errors.LeadError) as caught:
                    raise error_class(name)(value)
                self.assertIs(getattr(caught.exception, parameter), value)

    def test_without_parameter(self):
        for name in WITHOUT_PARAMETER:
            with self.subTest(name=name), self.assertRaises(error_class(name)):
                raise error_class(name)()


class BaseTest(unittest.TestCase):
    def test_direct_subclasses_of_lead_error(self):
        for name in ALL_NAMES:
            with self.subTest(name=name):
                self.assertEqual(error_class(name).__bases__, (errors.LeadError,))

    def test_lead_error_is_an_exception_and_no_other_error(self):
        self.assertEqual(errors.LeadError.__bases__, (Exception,))

    def test_each_is_an_exception_but_none_of_the_others(self):
        usual = (ValueError, TypeError, LookupError, ArithmeticError, RuntimeError, AttributeError, OSError)
        for name in ALL_NAMES:
            error = error_class(name)
            self.assertTrue(issubclass(error, Exception))
            for other in ALL_NAMES:
                with self.subTest(name=name, other=other):
                    self.assertEqual(issubclass(error, error_class(other)), name == other)
            for other in usual:
                with self.subTest(name=name, other=other):
                    self.assertFalse(issubclass(error, other))

    def test_defined_in_their_file_under_their_names(self):
        for name in ("LeadError", *ALL_NAMES):
            with self.subTest(name=name):
                self.assertEqual(error_class(name).__module__, "evenlead.errors")
                self.assertEqual(error_class(name).__name__, name)
