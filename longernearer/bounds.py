"""The bounds of skeletons, programs and desks."""

MAX_ITEMS = 24
MAX_JUMPS = 8
MAX_SIZE = 999
MAX_LENGTH = 10 ** 9
MAX_EDITS = 40
