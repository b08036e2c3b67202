"""The errors: what they stand under, and what they keep."""

import unittest

from longernearer import errors
from tests.telling import HUGE, nested

WITHOUT_ARGUMENTS = (
    "Unfit", "BadText", "Steady", "Untied", "TooManyEdits", "NothingToUndo", "NothingToRedo",
)
WITH_ONE = {
    "Loose": "triple", "NoLeast": "paper", "BadProgram": "error", "NoVersion": "given", "BadLog": "place",
}
KEPT = (
    None, True, False, 0, 1, -7, HUGE, "", "form", (), (1, 2, 0), ("skeleton", ("item", 3)), [], [1, [2]],
    {}, {"a": [1]}, errors.Unfit(), nested("deep", 20),
)


class ErrorsTest(unittest.TestCase):

    def test_lay_error_stands_directly_under_value_error(self):
        self.assertEqual(errors.LayError.__bases__, (ValueError,))

    def test_each_error_stands_directly_under_lay_error(self):
        for name in (*WITHOUT_ARGUMENTS, *WITH_ONE):
            with self.subTest(name):
                self.assertEqual(getattr(errors, name).__bases__, (errors.LayError,))

    def test_all_are_defined_in_their_file(self):
        for name in ("LayError", *WITHOUT_ARGUMENTS, *WITH_ONE):
            with self.subTest(name):
                self.assertEqual(getattr(errors, name).__module__, "longernearer.errors")
                self.assertEqual(getattr(errors, name).__name__, name)

    def test_errors_without_arguments_are_made_and_raised(self):
        for name in WITHOUT_ARGUMENTS:
            with self.subTest(name):
                error = getattr(errors, name)()
                self.assertEqual(vars(error), {})
                with self.assertRaises(errors.LayError) as caught:
                    raise error
                self.assertIs(caught.exception, error)

    def test_errors_keep_what_they_are_passed(self):
        for name, argument in WITH_ONE.items():
            for value in KEPT:
                with self.subTest(name, value=value):
                    before = repr(value)
                    for error in (getattr(errors, name)(value), getattr(errors, name)(**{argument: value})):
                        self.assertEqual(list(vars(error)), [argument])
                        self.assertIs(getattr(error, argument), value)
                        self.assertEqual(repr(value), before)

    def test_errors_with_one_argument_are_raised_with_it(self):
        for name, argument in WITH_ONE.items():
            with self.subTest(name):
                with self.assertRaises(ValueError) as caught:
                    raise getattr(errors, name)((1, 2))
                self.assertEqual(getattr(caught.exception, argument), (1, 2))
                self.assertIsInstance(str(caught.exception), str)

    def test_errors_with_one_argument_want_just_this_one(self):
        for name in WITH_ONE:
            with self.subTest(name):
                self.assertRaises(TypeError, getattr(errors, name))
                self.assertRaises(TypeError, getattr(errors, name), 1, 2)
                self.assertRaises(TypeError, getattr(errors, name), other=1)
