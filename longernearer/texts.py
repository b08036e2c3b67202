"""The texts of skeletons and of programs, written and read."""

from longernearer.bounds import MAX_LENGTH
from longernearer.errors import BadText
from longernearer.programs import program_error
from longernearer.skeletons import skeleton_error

FIGURES = "0123456789"


def skeleton_text(skeleton):
    """Return the text of a skeleton."""
    return " ".join([_item_text(item) for item in skeleton])


def read_skeleton(value):
    """Return the skeleton of which value is the text; raise BadText() if it is the text of none."""
    if not isinstance(value, str):
        raise BadText()
    skeleton = tuple([_read_item(word) for word in value.split(" ")])
    if skeleton_error(skeleton) is not None:
        raise BadText()
    return skeleton


def program_text(program):
    """Return the text of a program."""
    skeleton, lengths, reaches = program
    return "\n".join([skeleton_text(skeleton), _numbers_text(lengths), _numbers_text(reaches)])


def read_program(value):
    """Return the program of which value is the text; raise BadText() if it is the text of none."""
    if not isinstance(value, str):
        raise BadText()
    lines = value.split("\n")
    if len(lines) != 3:
        raise BadText()
    program = (read_skeleton(lines[0]), _read_numbers(lines[1]), _read_numbers(lines[2]))
    if program_error(program) is not None:
        raise BadText()
    return program


def _item_text(item):
    if item[0] == "label":
        return ":"
    if item[0] == "fill":
        return f"|{item[1]}"
    return f"{item[1]}/{item[2]}/{item[3]}"


def _read_item(word):
    """Return the item that word is of; what comes of other words is no item, or BadText() is raised."""
    if word == ":":
        return ("label",)
    if word.startswith("|"):
        return ("fill", _read_number(word[1:]))
    # How many numbers a jump has is looked at with all else that makes an item.
    return ("jump", *[_read_number(part) for part in word.split("/")])


def _numbers_text(numbers):
    return " ".join([str(number) for number in numbers])


def _read_numbers(line):
    """Return the integers of a line; raise BadText() if it is none of such."""
    # An empty line holds no integer; split would tell one empty word of it.
    if line == "":
        return ()
    return tuple([_read_number(word) for word in line.split(" ")])


def _read_number(word):
    """Return the integer that word is of; raise BadText() if it is of none that any bound lets by."""
    # int refuses words of some thousand figures, so those that are too long are kept from it.
    if not 1 <= len(word) <= len(str(MAX_LENGTH)):
        raise BadText()
    # int would take signs, blanks, and figures beyond ASCII, too.
    if not all([figure in FIGURES for figure in word]):
        raise BadText()
    if word[0] == "0" and word != "0":
        raise BadText()
    return int(word)
