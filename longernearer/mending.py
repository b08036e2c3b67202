"""Mending: long sizes with which a skeleton is steady, and growths and fills that never make a loose one."""

from longernearer.shifts import growth_of
from longernearer.skeletons import jumps_of
from longernearer.steadiness import possible_triples


def mended(skeleton):
    """Return the tuple of the least long sizes, none less than it was, with which no triple is left."""
    sizes = []
    for jump in jumps_of(skeleton):
        growth = growth_of(skeleton, jump)
        # All fills are powers of 2, so what the greatest one divides all of them divide.
        fills = [skeleton[fill][1] for _, fill, other in possible_triples(skeleton) if other == jump]
        sizes.append(skeleton[jump][3] + -growth % max(fills, default=1))
    return tuple(sizes)


def book_loose(growths, fills):
    """Return a loose skeleton that keeps to both, None if all that keep to both are steady."""
    for growth in growths:
        for size in fills:
            if growth % size != 0:
                # The first jump goes no further than to the label behind it, so it is ahead of the other one's way.
                ahead = (("jump", 1, 1, 1 + growth), ("label",))
                return ahead + (("jump", 4, 1, 1 + growth), ("fill", size), ("label",))
    return None
