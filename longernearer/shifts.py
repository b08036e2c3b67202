"""Shifts: by how much places go on as one jump becomes long, what fills make of that, and lengths for it."""

from longernearer.bounds import MAX_LENGTH
from longernearer.laying import ahead_of_way, in_way, own_bytes, way_of
from longernearer.skeletons import jumps_of


def growth_of(skeleton, jump):
    """Return the growth of a jump."""
    return skeleton[jump][3] - skeleton[jump][2]


def changes_by_fills(skeleton, other, jump):
    """Return the dict of all integers by which the way of jump changes if other becomes long.

    Each is told with the fills that have to round below for it, if all others round above.
    """
    growth = growth_of(skeleton, other)
    between = in_way(skeleton, jump)
    if other in between:
        return _shifts_behind(skeleton, growth, [place for place in between if place > other])
    ahead = ahead_of_way(skeleton, jump)
    if other not in ahead:
        return {0: ()}
    begins = _shifts_behind(skeleton, growth, [place for place in ahead if place > other])
    changes = {}
    for begin, below_ahead in begins.items():
        ends = _shifts_behind(skeleton, begin, between)
        for end, below_between in ends.items():
            changes[end - begin] = below_ahead + below_between
    return changes


def lengths_rounding(skeleton, below):
    """Return lengths at which shifts go on as the multiple below at the fills in below, above at all others.

    By no long jump a fill in below begins at 1 more than a multiple of it, any other one at a multiple.
    """
    lengths = []
    end = 0
    for place, item in enumerate(skeleton):
        length = 0
        if item[0] == "fill":
            rest = 1 if place in below else 0
            length = (rest - end) % item[1]
        lengths.append(length)
        end = end + length + own_bytes(item, end + length, False)
    return tuple(lengths) + (0,)


def swaying_program(skeleton, triple, unreached):
    """Return a program in which the way of the triple's jump is shorter with its other one long.

    By no long jump those in unreached, which are among these two, miss their goals by a byte; all others reach far.
    """
    jump, _, other = triple
    changes = changes_by_fills(skeleton, other, jump)
    lengths = list(lengths_rounding(skeleton, changes[min(changes)]))
    # So the way of the other one has a byte to miss; all fills take 64 bytes as they are.
    lengths[other + 1] += 64
    near = {short: way_of(skeleton, lengths, (), short) - 1 for short in unreached}
    return (skeleton, tuple(lengths), reaches_with(skeleton, near))


def reaches_with(skeleton, near):
    """Return reaches as the dict near tells them; all jumps that it does not tell of reach far."""
    return tuple([near.get(jump, MAX_LENGTH) for jump in jumps_of(skeleton)])


def _shifts_behind(skeleton, shift, places):
    """Return the dict of all that the fills at these places can make of a shift.

    Each is told with those of the fills that have to round below for it.
    """
    shifts = {shift: ()}
    for place in places:
        if skeleton[place][0] == "fill":
            shifts = _behind_fill(shifts, place, skeleton[place][1])
    return shifts


def _behind_fill(shifts, place, size):
    behind = {}
    for shift, below in shifts.items():
        rest = shift % size
        behind[shift - rest] = below + (place,)
        # What the fill divides goes on as it is, whichever way it rounds.
        if rest != 0:
            behind[shift - rest + size] = below
    return behind
