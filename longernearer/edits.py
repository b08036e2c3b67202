"""Edits: tuples that change one part of a program."""

from longernearer.errors import Unfit
from longernearer.integers import is_integer_from_to
from longernearer.programs import program_error
from longernearer.skeletons import jumps_of

# How many items an edit has, its name with them.
ITEMS = {"lay": 3, "reach": 3, "size": 4, "fill": 3}


def edited(program, edit):
    """Return the program that edit, any value, makes of program; raise Unfit() if it is no edit that fits it."""
    if not _has_form(edit):
        raise Unfit()
    made = _made(program, edit)
    if program_error(made) is not None:
        raise Unfit()
    return made


def _has_form(edit):
    """Tell whether edit is a tuple of the name of an edit and as many items as it takes."""
    if not isinstance(edit, tuple) or len(edit) == 0 or not isinstance(edit[0], str):
        return False
    return ITEMS.get(edit[0]) == len(edit)


def _made(program, edit):
    skeleton, lengths, reaches = program
    name, place, value = edit[:3]
    if name == "lay":
        return (skeleton, _with_item(lengths, place, value), reaches)
    if name == "reach":
        _check_kind(skeleton, place, "jump")
        return (skeleton, lengths, _with_item(reaches, jumps_of(skeleton).index(place), value))
    if name == "size":
        _check_kind(skeleton, place, "jump")
        return (_with_item(skeleton, place, skeleton[place][:2] + edit[2:]), lengths, reaches)
    _check_kind(skeleton, place, "fill")
    return (_with_item(skeleton, place, ("fill", value)), lengths, reaches)


def _with_item(row, place, item):
    """Return row with another item at place; raise Unfit() if there is no such place."""
    if not is_integer_from_to(place, 0, len(row) - 1):
        raise Unfit()
    return row[:place] + (item,) + row[place + 1:]


def _check_kind(skeleton, place, kind):
    """Raise Unfit() if place, any value, is no place of an item of this kind."""
    if not is_integer_from_to(place, 0, len(skeleton) - 1) or skeleton[place][0] != kind:
        raise Unfit()
