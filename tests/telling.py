"""What the tests share: calls that are looked at from all sides, and values of all kinds."""

import inspect
import unittest

from longernearer.errors import BadLog, Loose, Unfit

HUGE = 10 ** 399

# None of these is a tuple.
NO_TUPLES = (
    None, True, False, 0, 1, 3, -1, HUGE, -HUGE, "", "form", "abc", "label", "a\nb",
    [], [("label",)], ["label"], {}, {"label": 1}, {0: ("label",)}, {("label",): None},
    Unfit(), Loose((1, 2, 0)), BadLog(0),
)

# None of these is an integer; some are equal to one.
NO_INTEGERS = (None, True, False, "", "0", "1", "4", (), (1,), [], [1], {}, {1: 1}, Unfit())


def nested(value, depth):
    """Return value in so many tuples, lists and dicts."""
    for level in range(depth):
        value = ((value,), [value], {"in": value})[level % 3]
    return value


def exact(value):
    """Return a text that differs for unlike values, also for True and 1."""
    return repr(value)


class TellingCase(unittest.TestCase):
    """Test cases for functions that change nothing and tell the same each time."""

    def told(self, function, **arguments):
        """Return what a call returns that is looked at by place and by name, twice each; arguments stand in their order."""
        self.assertEqual(list(inspect.signature(function).parameters), list(arguments))
        before = exact(arguments)
        value = function(*arguments.values())
        for call in (lambda: function(**arguments), lambda: function(*arguments.values())) * 2:
            self.assertEqual(exact(call()), exact(value), before)
        self.assertEqual(exact(arguments), before)
        return value

    def assert_tells(self, function, expected, **arguments):
        """Look at a call that tells just this, as told does."""
        self.assertEqual(exact(self.told(function, **arguments)), exact(expected), exact(arguments))

    def refused(self, function, error, **arguments):
        """Return the fields of the error of just this class that a call raises, looked at as told does."""
        self.assertEqual(list(inspect.signature(function).parameters), list(arguments))
        before, fields = exact(arguments), []
        for call in (lambda: function(*arguments.values()), lambda: function(**arguments)) * 2:
            with self.assertRaises(error, msg=before) as caught:
                call()
            self.assertIs(type(caught.exception), error)
            fields.append(vars(caught.exception))
            self.assertEqual(exact(fields[-1]), exact(fields[0]))
        self.assertEqual(exact(arguments), before)
        return fields[0]

    def assert_refuses(self, function, error, fields, **arguments):
        """Look at a call that raises an error of just this class with these fields, as told does."""
        self.assertEqual(exact(self.refused(function, error, **arguments)), exact(fields), exact(arguments))
