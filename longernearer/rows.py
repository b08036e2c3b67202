"""Rows of growing and of shrinking: choices that go on jump by jump, up to an end.

moves is a function: moves(program, choice) returns the dict of the jumps by which choice can go on,
each with the choice that comes of it. A choice without moves is an end.
"""

from longernearer.integers import is_integer


def row_in_order(program, order, begin, moves):
    """Return the row from begin on in which always the first jump in order that can goes on."""
    row = ()
    further = moves(program, begin)
    while further:
        jump = _first_in(order, further)
        row = row + (jump,)
        further = moves(program, further[jump])
    return row


def is_row(program, value, begin, moves):
    """Tell whether value, any value, is a row from begin on, up to an end."""
    if not isinstance(value, tuple):
        return False
    further = moves(program, begin)
    for item in value:
        # True is equal to the jump 1, but is none; and what is no integer may be no key.
        if not is_integer(item) or item not in further:
            return False
        further = moves(program, further[item])
    return len(further) == 0


def ends_of_rows(program, begin, moves):
    """Return the ascending tuple of the ends of all rows from begin on, each once."""
    # Rows that come to one choice go on alike, so each choice is looked at once.
    seen = {begin: True}
    waiting = [begin]
    ends = []
    while waiting:
        choice = waiting.pop()
        further = moves(program, choice)
        if not further:
            ends.append(choice)
        for following in further.values():
            if following not in seen:
                seen[following] = True
                waiting.append(following)
    return tuple(sorted(ends))


def _first_in(order, further):
    return [jump for jump in order if jump in further][0]
