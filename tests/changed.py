"""What the tests share: values that differ from one that is right in one part only, and values of all kinds."""

from longernearer.errors import Loose, NoLeast, Unfit
from tests.telling import HUGE, NO_TUPLES, nested

OTHERS = (None, (), [], {}, "", 0, 1, -1, True, False, 10 ** 9 + 1, HUGE, -HUGE, {0: (1,)}, nested(1, 15), Unfit())


def changed(value):
    """Return values in which one part of value is another one, at any depth."""
    values = [other for other in OTHERS] + [[value], (value,), {0: value}, {"in": value}]
    if isinstance(value, tuple):
        values += [list(value), dict(enumerate(value)), value[::-1], value + value, value + (Loose(value),)]
        values += [value + (other,) for other in (None, (), 0, 1, True, [])]
        for at, item in enumerate(value):
            ahead, behind = value[:at], value[at + 1:]
            values += [ahead + behind, ahead + (item,) + value[at:], value[at:] + ahead]
            values += [value[:at - 1] + (item, value[at - 1]) + behind] if at > 0 else []
            values += [ahead + (other,) + behind for other in changed(item)]
    elif isinstance(value, int):
        values += [value + 1, value - 1, str(value), 2 * value]
        values += [bool(value)] if value in (0, 1) else []
    elif isinstance(value, str):
        values += [value + "s", value[:-1], value.upper(), list(value)]
    return values


def of_all_kinds(right):
    """Return values that are no tuple, and errors with what is right in them."""
    return NO_TUPLES + (NoLeast(right), [NoLeast(right)], (NoLeast(right), NoLeast(right)), nested(right, 12))
