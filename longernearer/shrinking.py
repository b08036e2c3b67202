"""Shrinking: begin with all jumps long, and make short, one by one, what need not be long."""

from longernearer.laying import serves
from longernearer.rows import ends_of_rows, is_row, row_in_order
from longernearer.skeletons import jumps_of


def shrunk(program, order):
    """Return the row of shrinking in which always the first jump in order that can becomes short."""
    return row_in_order(program, order, jumps_of(program[0]), _shorter)


def shrink_holds(program, value):
    """Tell whether value, any value, is a row of shrinking of program."""
    return is_row(program, value, jumps_of(program[0]), _shorter)


def shrinking_ends(program):
    """Return the ascending tuple of the ends of all rows of shrinking, each once."""
    return ends_of_rows(program, jumps_of(program[0]), _shorter)


def _shorter(program, choice):
    """Return the dict of the jumps that can become short, each with the choice without it."""
    without = {jump: tuple([other for other in choice if other != jump]) for jump in choice}
    return {jump: left for jump, left in without.items() if serves(program, left)}
