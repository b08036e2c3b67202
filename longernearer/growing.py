"""Growing: begin with all jumps short, and make long, one by one, what is stuck."""

from longernearer.laying import stuck
from longernearer.rows import ends_of_rows, is_row, row_in_order


def grown(program, order):
    """Return the row of growing in which always the first stuck jump in order becomes long."""
    return row_in_order(program, order, (), _longer)


def row_holds(program, value):
    """Tell whether value, any value, is a row of growing of program."""
    return is_row(program, value, (), _longer)


def growing_ends(program):
    """Return the ascending tuple of the ends of all rows of growing, each once."""
    return ends_of_rows(program, (), _longer)


def _longer(program, choice):
    """Return the dict of the jumps that can become long, each with the choice that has it, too."""
    return {jump: tuple(sorted(choice + (jump,))) for jump in stuck(program, choice)}
