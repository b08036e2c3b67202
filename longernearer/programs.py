"""Programs: a skeleton with lengths and reaches; and choices of long jumps."""

from longernearer.bounds import MAX_LENGTH
from longernearer.integers import is_integer, is_integer_from_to
from longernearer.skeletons import jumps_of, skeleton_error


def lengths_error(skeleton, value):
    """Return None if value are lengths for skeleton, otherwise what is wrong first."""
    return _row_error(value, len(skeleton) + 1, "length")


def reaches_error(skeleton, value):
    """Return None if value are reaches for skeleton, otherwise what is wrong first."""
    return _row_error(value, len(jumps_of(skeleton)), "reach")


def program_error(value):
    """Return None if value is a program, otherwise what is wrong first."""
    if not isinstance(value, tuple) or len(value) != 3:
        return "form"
    skeleton, lengths, reaches = value
    error = skeleton_error(skeleton)
    if error is not None:
        return ("skeleton", error)
    error = lengths_error(skeleton, lengths)
    if error is not None:
        return ("lengths", error)
    error = reaches_error(skeleton, reaches)
    if error is not None:
        return ("reaches", error)
    return None


def choice_error(skeleton, value):
    """Return None if value is a choice of skeleton, otherwise what is wrong first."""
    if not isinstance(value, tuple):
        return "form"
    jumps = jumps_of(skeleton)
    for place, item in enumerate(value):
        # True is equal to the place 1, but names no jump.
        if not is_integer(item) or item not in jumps:
            return ("jump", place)
    for place in range(1, len(value)):
        if value[place] <= value[place - 1]:
            return ("order", place)
    return None


def is_program_with(skeleton, value):
    """Tell whether value, any value, is a program with this skeleton."""
    # True is equal to 1, so what is no program is not compared.
    return program_error(value) is None and value[0] == skeleton


def _row_error(value, many, word):
    """Return None if value are so many integers up to MAX_LENGTH, otherwise what is wrong first."""
    if not isinstance(value, tuple) or len(value) != many:
        return "form"
    for place, item in enumerate(value):
        if not is_integer_from_to(item, 0, MAX_LENGTH):
            return (word, place)
    return None
