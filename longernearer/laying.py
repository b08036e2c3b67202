"""Laying: where the items of a skeleton come to stand, ways, and which jumps are stuck."""

from longernearer.skeletons import jumps_of


def laid(skeleton, lengths, choice):
    """Return the tuple of the pairs (begin, end) of all items, laid by lengths and choice."""
    spots = []
    end = 0
    for place, item in enumerate(skeleton):
        begin = end + lengths[place]
        end = begin + own_bytes(item, begin, place in choice)
        spots.append((begin, end))
    return tuple(spots)


def total(skeleton, lengths, choice):
    """Return how many bytes there are in all."""
    return laid(skeleton, lengths, choice)[-1][1] + lengths[-1]


def in_way(skeleton, jump):
    """Return the ascending tuple of the places of all items that stand in the way of jump."""
    goal = skeleton[jump][1]
    return tuple(range(min(jump, goal) + 1, max(jump, goal)))


def ahead_of_way(skeleton, jump):
    """Return the ascending tuple of the places of all items that stand ahead of the way of jump."""
    goal = skeleton[jump][1]
    return tuple(range(min(jump, goal)))


def way_of(skeleton, lengths, choice, jump):
    """Return how many bytes the way of jump has by choice, with jump itself short."""
    others = tuple([other for other in choice if other != jump])
    return _way(skeleton, laid(skeleton, lengths, others), jump)


def serves(program, choice):
    """Tell whether no jump is stuck by choice."""
    return len(stuck(program, choice)) == 0


def stuck(program, choice):
    """Return the ascending tuple of the jumps that are short in choice and do not reach."""
    skeleton, lengths, reaches = program
    # Only jumps that are short by choice are asked for, so one laying has all their ways.
    spots = laid(skeleton, lengths, choice)
    found = []
    for jump, reach in zip(jumps_of(skeleton), reaches):
        if jump not in choice and _way(skeleton, spots, jump) > reach:
            found.append(jump)
    return tuple(found)


def own_bytes(item, begin, is_long):
    """Return how many bytes an item takes that begins there."""
    if item[0] == "label":
        return 0
    if item[0] == "fill":
        return -begin % item[1]
    return item[3] if is_long else item[2]


def _way(skeleton, spots, jump):
    """Return the way of jump in a skeleton that is laid to spots, jump being short."""
    goal = skeleton[jump][1]
    if goal > jump:
        return spots[goal][0] - spots[jump][1]
    return spots[jump][1] - spots[goal][0]
