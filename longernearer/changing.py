"""Changing: what a longer jump does to another one's way, and which jumps hang on which."""

from longernearer.errors import Unfit
from longernearer.integers import is_integer
from longernearer.shifts import changes_by_fills, lengths_rounding
from longernearer.skeletons import jumps_of
from longernearer.steadiness import triples


def changes(skeleton, other, jump):
    """Return the ascending tuple of all integers by which the way of jump changes at some lengths."""
    return tuple(sorted(changes_by_fills(skeleton, other, jump)))


def change_lengths(skeleton, other, jump, value):
    """Return lengths at which the way of jump changes by value; raise Unfit() if it changes by it at none."""
    by_fills = changes_by_fills(skeleton, other, jump)
    # False is equal to 0, but is no integer; and what is no integer may be no key.
    if not is_integer(value) or value not in by_fills:
        raise Unfit()
    return lengths_rounding(skeleton, by_fills[value])


def hangs_on(skeleton, jump):
    """Return the ascending tuple of the other jumps that change the way of jump at some lengths."""
    others = [other for other in jumps_of(skeleton) if other != jump]
    return tuple([other for other in others if changes(skeleton, other, jump) != (0,)])


def sure_part(skeleton):
    """Return the ascending tuple of the jumps that are not unsure."""
    jumps = jumps_of(skeleton)
    hanging = {jump: hangs_on(skeleton, jump) for jump in jumps}
    unsure = {triple[0]: True for triple in triples(skeleton)}
    # A jump is unsure by a chain of others, with no more steps than there are jumps.
    for _ in jumps:
        for jump in jumps:
            if any([other in unsure for other in hanging[jump]]):
                unsure[jump] = True
    return tuple([jump for jump in jumps if jump not in unsure])
