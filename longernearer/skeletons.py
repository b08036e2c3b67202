"""Skeletons: rows of jumps, labels and fills."""

from longernearer.bounds import MAX_ITEMS, MAX_JUMPS, MAX_SIZE
from longernearer.integers import is_integer

FILL_SIZES = (2, 4, 8, 16, 32, 64)


def skeleton_error(value):
    """Return None if value is a skeleton, otherwise what is wrong first."""
    if not isinstance(value, tuple) or not 1 <= len(value) <= MAX_ITEMS:
        return "form"
    for place, item in enumerate(value):
        if not _is_item(item):
            return ("item", place)
    jumps = jumps_of(value)
    for jump in jumps:
        if not _is_place_of_label(value, value[jump][1]):
            return ("goal", jump)
    if len(jumps) > MAX_JUMPS:
        return "jumps"
    return None


def jumps_of(skeleton):
    """Return the ascending tuple of the jumps of a skeleton."""
    return tuple([place for place, item in enumerate(skeleton) if item[0] == "jump"])


def _is_item(value):
    """Tell whether value is a label, a fill, or a jump to any integer."""
    if not isinstance(value, tuple):
        return False
    return _is_label(value) or _is_fill(value) or _is_jump(value)


def _is_label(item):
    return len(item) == 1 and item[0] == "label"


def _is_fill(item):
    return len(item) == 2 and item[0] == "fill" and _is_fill_size(item[1])


def _is_fill_size(value):
    return is_integer(value) and value in FILL_SIZES


def _is_jump(item):
    return len(item) == 4 and item[0] == "jump" and is_integer(item[1]) and _are_sizes(item[2], item[3])


def _are_sizes(short, long):
    """Tell whether short and long may be the two sizes of a jump."""
    return is_integer(short) and is_integer(long) and 1 <= short < long <= MAX_SIZE


def _is_place_of_label(items, goal):
    return 0 <= goal < len(items) and _is_label(items[goal])
