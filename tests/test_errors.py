"""Point 2 and stoppoints/errors.py."""

import unittest

from stoppoints import errors
from stoppoints.errors import StopError

from cases import STRANGE, Case

PARAMETERS = {
    "InvalidTime": ["value"],
    "InvalidName": ["value"],
    "InvalidTurns": ["value"],
    "InvalidCode": ["value"],
    "InvalidText": ["text"],
    "InvalidFunctions": ["name"],
    "UnknownName": ["name"],
    "InvalidChoice": ["index"],
    "LimitExceeded": ["limit"],
    "InvalidNumber": ["value"],
    "InvalidTrail": ["index"],
    "InvalidPlace": ["value"],
    "InvalidRule": ["value"],
    "InvalidLimit": ["value"],
    "InvalidCosts": ["value"],
    "InvalidLoop": ["value"],
    "CannotInline": ["name"],
    "OverLimit": ["name", "needed"],
    "NothingToUndo": [],
    "NothingToRedo": [],
    "InvalidLine": ["index"],
    "InvalidCommand": ["command"],
    "InvalidProgram": ["value"],
}


def error_class(name):
    return getattr(errors, name)


class ErrorsTest(Case):
    def test_stop_error_is_a_value_error(self):
        self.assertTrue(issubclass(StopError, ValueError))
        for name in PARAMETERS:
            self.assertFalse(issubclass(StopError, error_class(name)))

    def test_every_error_is_a_stop_error(self):
        for name, parameters in PARAMETERS.items():
            with self.subTest(name):
                error = error_class(name)(*parameters)
                self.assertIsInstance(error, StopError)
                self.assertIsInstance(error, ValueError)

    def test_no_error_is_under_another_one(self):
        for one in PARAMETERS:
            for other in PARAMETERS:
                if one != other:
                    with self.subTest(one=one, other=other):
                        self.assertFalse(issubclass(error_class(one), error_class(other)))

    def test_parameters_are_kept_by_position(self):
        for name, parameters in PARAMETERS.items():
            for value in STRANGE + [0, -1, 10 ** 5000, "a" * 9]:
                with self.subTest(name):
                    error = error_class(name)(*[value] * len(parameters))
                    for parameter in parameters:
                        self.assertIs(getattr(error, parameter), value)

    def test_parameters_are_kept_by_name(self):
        for name, parameters in PARAMETERS.items():
            with self.subTest(name):
                told = {parameter: [parameter] for parameter in parameters}
                error = error_class(name)(**told)
                for parameter in parameters:
                    self.assertEqual(getattr(error, parameter), [parameter])

    def test_two_parameters_are_not_mixed_up(self):
        error = errors.OverLimit("f", 7)
        self.assertEqual((error.name, error.needed), ("f", 7))

    def test_errors_are_raised_and_caught(self):
        for name, parameters in PARAMETERS.items():
            with self.subTest(name):
                with self.assertRaises(StopError) as caught:
                    raise error_class(name)(*parameters)
                self.assertIs(type(caught.exception), error_class(name))


if __name__ == "__main__":
    unittest.main()
