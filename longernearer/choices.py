"""Choices of long jumps: which ones stand within which."""


def choices_within(choice):
    """Return the list of all choices that stand within choice."""
    found = [()]
    for jump in choice:
        found = found + [fewer + (jump,) for fewer in found]
    return found


def is_within(one, other):
    """Tell whether all jumps of the choice one stand in the choice other, too."""
    return all([jump in other for jump in one])


def in_both(one, other):
    """Return the choice of the jumps that stand in both choices."""
    return tuple([jump for jump in one if jump in other])
