"""Choosing: which choices serve one program, which is the least one, and which has the fewest bytes."""

from longernearer.choices import choices_within, in_both, is_within
from longernearer.errors import NoLeast
from longernearer.laying import serves, total
from longernearer.programs import choice_error
from longernearer.skeletons import jumps_of


def serving(program):
    """Return the ascending tuple of all choices that serve program."""
    choices = choices_within(jumps_of(program[0]))
    return tuple(sorted([choice for choice in choices if serves(program, choice)]))


def least_choice(program):
    """Return the choice that serves program and is within each that does; raise NoLeast(paper) if none is."""
    able = serving(program)
    # Nothing that serves has fewer jumps, so nothing else that serves is within it.
    fewest = min(able, key=len)
    others = [choice for choice in able if not is_within(fewest, choice)]
    if not others:
        return fewest
    raise NoLeast((fewest, others[0]))


def least_holds(program, value):
    """Tell whether value, any value, is a pair of choices that serve, while none within both of them does."""
    if not isinstance(value, tuple) or len(value) != 2:
        return False
    one, other = value
    if not _is_serving(program, one) or not _is_serving(program, other):
        return False
    return not any([serves(program, choice) for choice in choices_within(in_both(one, other))])


def fewest_bytes(program):
    """Return the pair of the least total of any choice that serves program, and a choice that has it."""
    skeleton, lengths, _ = program
    return min([(total(skeleton, lengths, choice), choice) for choice in serving(program)])


def _is_serving(program, value):
    """Tell whether value, any value, is a choice that serves program."""
    return choice_error(program[0], value) is None and serves(program, value)
