"""Steadiness: whether a skeleton is steady, and programs of loose ones that have no least choice."""

from longernearer.choosing import least_holds
from longernearer.errors import Steady
from longernearer.laying import ahead_of_way, in_way
from longernearer.programs import is_program_with
from longernearer.shifts import growth_of, swaying_program
from longernearer.skeletons import jumps_of


def triples(skeleton):
    """Return the ascending tuple of all triples of skeleton."""
    return tuple([
        (jump, fill, other) for jump, fill, other in possible_triples(skeleton)
        if growth_of(skeleton, other) % skeleton[fill][1] != 0
    ])


def steady_error(skeleton):
    """Return None if skeleton is steady, otherwise its first triple."""
    found = triples(skeleton)
    return found[0] if found else None


def loose_program(skeleton):
    """Return a program with skeleton and two choices that serve it, while none within both does.

    Raise Steady() if skeleton is steady.
    """
    triple = first_triple(skeleton)
    jump, _, other = triple
    return (swaying_program(skeleton, triple, (jump,)), (other,), (jump,))


def loose_holds(skeleton, value):
    """Tell whether value, any value, is a program with skeleton and two such choices."""
    if not isinstance(value, tuple) or len(value) != 3:
        return False
    program, one, other = value
    return is_program_with(skeleton, program) and least_holds(program, (one, other))


def first_triple(skeleton):
    """Return the first triple of skeleton; raise Steady() if it is steady."""
    triple = steady_error(skeleton)
    if triple is None:
        raise Steady()
    return triple


def possible_triples(skeleton):
    """Return the ascending list of all (jump, fill, other) that are triples if fill does not divide other's growth."""
    return [
        (jump, fill, other)
        for jump in jumps_of(skeleton)
        for fill in in_way(skeleton, jump) if skeleton[fill][0] == "fill"
        for other in ahead_of_way(skeleton, jump) if skeleton[other][0] == "jump"
        if not _is_hidden(skeleton, fill, other)
    ]


def _is_hidden(skeleton, fill, other):
    """Tell whether a fill as great or greater stands between the jump other and the fill."""
    size = skeleton[fill][1]
    return any([item[0] == "fill" and item[1] >= size for item in skeleton[other + 1:fill]])
