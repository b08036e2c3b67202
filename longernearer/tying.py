"""Tying: jumps that stand in each other's way, and programs in which they stay long for that."""

from longernearer.choices import is_within
from longernearer.choosing import serving
from longernearer.errors import Loose, Untied
from longernearer.laying import in_way, way_of
from longernearer.programs import choice_error, is_program_with
from longernearer.shifts import lengths_rounding, reaches_with
from longernearer.shrinking import shrinking_ends
from longernearer.skeletons import jumps_of
from longernearer.steadiness import steady_error


def tied_pairs(skeleton):
    """Return the ascending tuple of all pairs (one, other) of tied jumps, one less than other."""
    jumps = jumps_of(skeleton)
    return tuple([
        (one, other) for one in jumps for other in jumps
        if one < other and one in in_way(skeleton, other) and other in in_way(skeleton, one)
    ])


def tight_program(skeleton):
    """Return a program with skeleton and an end of shrinking that is not within each choice that serves.

    Raise Loose(triple) if skeleton is loose, otherwise Untied() if no two jumps are tied.
    """
    triple = steady_error(skeleton)
    if triple is not None:
        raise Loose(triple)
    pairs = tied_pairs(skeleton)
    if not pairs:
        raise Untied()
    # With each fill at a multiple no shift becomes less: each of the pair, if long, is too much for the other one.
    lengths = lengths_rounding(skeleton, ())
    near = {jump: way_of(skeleton, lengths, (), jump) for jump in pairs[0]}
    return ((skeleton, lengths, reaches_with(skeleton, near)), pairs[0])


def tight_holds(skeleton, value):
    """Tell whether value, any value, is a program with skeleton and such an end of shrinking."""
    if not isinstance(value, tuple) or len(value) != 2:
        return False
    program, choice = value
    if not is_program_with(skeleton, program) or choice_error(skeleton, choice) is not None:
        return False
    if choice not in shrinking_ends(program):
        return False
    return not all([is_within(choice, other) for other in serving(program)])
