"""Lengthening: from how many more bytes on a jump is long."""

from longernearer.errors import Loose
from longernearer.growing import grown
from longernearer.laying import way_of
from longernearer.skeletons import jumps_of
from longernearer.steadiness import steady_error


def turning(program, place, jump):
    """Return the least number of steps more at place with which jump is in the least choice, None if there is none.

    Raise Loose(triple) if the skeleton is not steady.
    """
    skeleton = program[0]
    triple = steady_error(skeleton)
    if triple is not None:
        raise Loose(triple)
    step = _step(skeleton)
    number = 0
    longer = program
    choice = _least(longer)
    while jump not in choice:
        steps = _steps_to_next(longer, choice, place, step)
        if steps is None:
            return None
        number = number + steps
        longer = _lengthened(program, place, number * step)
        choice = _least(longer)
    return number


def _step(skeleton):
    """Return the greatest size of a fill, 1 if there is none."""
    return max([item[1] for item in skeleton if item[0] == "fill"], default=1)


def _least(program):
    """Return the least choice of a program with a steady skeleton."""
    return tuple(sorted(grown(program, jumps_of(program[0]))))


def _steps_to_next(program, choice, place, step):
    """Return how many steps more at place it takes until one more jump is stuck by choice, None if none ever is."""
    skeleton, lengths, reaches = program
    wanted = []
    for jump, reach in zip(jumps_of(skeleton), reaches):
        if jump not in choice and _stands_in(skeleton, place, jump):
            room = reach - way_of(skeleton, lengths, choice, jump)
            wanted.append(room // step + 1)
    return min(wanted, default=None)


def _stands_in(skeleton, place, jump):
    """Tell whether the length at place stands in the way of jump."""
    goal = skeleton[jump][1]
    return min(jump, goal) < place <= max(jump, goal)


def _lengthened(program, place, more):
    """Return the program with so many bytes more at place."""
    skeleton, lengths, reaches = program
    return (skeleton, lengths[:place] + (lengths[place] + more,) + lengths[place + 1:], reaches)
