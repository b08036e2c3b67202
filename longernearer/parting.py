"""Parting: programs of loose skeletons with rows of growing that end unlike."""

from longernearer.growing import row_holds
from longernearer.programs import is_program_with
from longernearer.shifts import swaying_program
from longernearer.steadiness import first_triple


def parted(skeleton):
    """Return a program with skeleton and two rows of growing of it that end with unlike choices.

    Raise Steady() if skeleton is steady.
    """
    triple = first_triple(skeleton)
    jump, _, other = triple
    # The jump stands behind the other one, so never ahead of its way: the other one stays stuck.
    return (swaying_program(skeleton, triple, (jump, other)), (other,), (jump, other))


def parted_holds(skeleton, value):
    """Tell whether value, any value, is a program with skeleton and two such rows."""
    if not isinstance(value, tuple) or len(value) != 3:
        return False
    program, one, other = value
    if not is_program_with(skeleton, program):
        return False
    if not row_holds(program, one) or not row_holds(program, other):
        return False
    return sorted(one) != sorted(other)
