"""What the tests share: looks of their own at programs and skeletons, quick enough for eight jumps and 24 items."""

import functools
import itertools
import random

from longernearer.programs import program_error
from tests.samples import LABEL, MOST, choices_of, jumps_in, some_program, some_skeleton


def ways_in(skeleton, lengths, choice):
    """Return the dict of the ways of all jumps that are short by choice."""
    # Bytes ahead of each item and behind it: one running number for both.
    begins, ends, here = [], [], 0
    for place, (kind, *more) in enumerate(skeleton):
        here += lengths[place]
        begins.append(here)
        if kind == "fill":
            here = (here + more[0] - 1) // more[0] * more[0]
        if kind == "jump":
            here += more[2 if place in choice else 1]
        ends.append(here)
    ways = {}
    for jump in jumps_in(skeleton):
        goal = skeleton[jump][1]
        if jump not in choice:
            ways[jump] = begins[goal] - ends[jump] if goal > jump else ends[jump] - begins[goal]
    return ways


def way_in(skeleton, lengths, choice, jump):
    return ways_in(skeleton, lengths, [other for other in choice if other != jump])[jump]


def bytes_in_all(skeleton, lengths, choice):
    """Return how many bytes there are in all: the way of a jump put around all, less itself."""
    last = len(skeleton) + 1
    moved = tuple(item if item[0] != "jump" else ("jump", item[1] + 1, *item[2:]) for item in skeleton)
    around = (LABEL, *moved, ("jump", 0, 1, 2))
    return ways_in(around, (0, *lengths), [jump + 1 for jump in choice])[last] - 1


def stuck_in(program, choice):
    skeleton, lengths, reaches = program
    ways = ways_in(skeleton, lengths, choice)
    return tuple(jump for jump, reach in zip(jumps_in(skeleton), reaches) if ways.get(jump, 0) > reach)


def spare_in(program, choice):
    """Return the jumps of a choice without which it serves."""
    return tuple(jump for jump in choice if not stuck_in(program, tuple(other for other in choice if other != jump)))


@functools.cache
def serving_in(program):
    """Return all choices that serve program."""
    return [choice for choice in choices_of(program[0]) if not stuck_in(program, choice)]


def is_choice(skeleton, value):
    if type(value) is not tuple or not all(type(item) is int for item in value):
        return False
    return value in choices_of(skeleton)


def is_paper(program, value):
    """Tell whether value is a pair of choices that serve program, while none within both does."""
    if type(value) is not tuple or len(value) != 2 or not all(is_choice(program[0], choice) for choice in value):
        return False
    able = serving_in(program)
    both = set(value[0]) & set(value[1])
    return value[0] in able and value[1] in able and not [choice for choice in able if set(choice) <= both]


def least_in(program):
    """Return the least choice of program, None if there is none."""
    able = serving_in(program)
    found = [one for one in able if all(set(one) <= set(other) for other in able)]
    return found[0] if found else None


def is_row_of_growing(program, value):
    if type(value) is not tuple:
        return False
    choice = ()
    for item in value:
        if type(item) is not int or item not in stuck_in(program, choice):
            return False
        choice += (item,)
    return not stuck_in(program, choice)


def is_program_of(skeleton, value):
    return program_error(value) is None and value[0] == skeleton


def between_places(skeleton, jump):
    """Return the places strictly between a jump and its goal, and those ahead of both."""
    places = range(len(skeleton))
    goal = skeleton[jump][1]
    between = [place for place in places if jump < place < goal or goal < place < jump]
    return between, [place for place in places if place < jump and place < goal]


def triples_in(skeleton, growths=None):
    """Return the ascending tuple of all triples; growths tells other growths than those of the skeleton."""
    found = []
    for jump, fill, other in itertools.product(range(len(skeleton)), repeat=3):
        if (skeleton[jump][0], skeleton[fill][0], skeleton[other][0]) != ("jump", "fill", "jump"):
            continue
        between, ahead = between_places(skeleton, jump)
        growth = growths[other] if growths else skeleton[other][3] - skeleton[other][2]
        greater = [place for place in range(other + 1, fill) if skeleton[place][0] == "fill" and skeleton[place][1] >= skeleton[fill][1]]
        if fill in between and other in ahead and not greater and growth % skeleton[fill][1]:
            found.append((jump, fill, other))
    return tuple(found)


def tied_in(skeleton):
    """Return the ascending tuple of the pairs of jumps each of which stands in the way of the other one."""
    jumps = jumps_in(skeleton)
    return tuple((one, other) for one in jumps for other in jumps if one < other
                 and other in between_places(skeleton, one)[0] and one in between_places(skeleton, other)[0])


def all_roundings(skeleton):
    """Return lengths at which the fills begin at all that can stand ahead of them, each beside each."""
    steps = [range(item[1]) if item[0] == "fill" else (0,) for item in skeleton]
    return [(*lengths, 0) for lengths in itertools.product(*steps)]


def some_skeletons(seed, many, items, **more):
    """Return so many skeletons of so many items with any number of jumps, the same ones for the same arguments."""
    source = random.Random(seed)
    return [some_skeleton(source, items, source.randint(0, min(8, items - 1)), **more) for _ in range(many)]


def skeletons_of_all_sizes(seed, many):
    """Return skeletons of one item to 24, as many of each; growths that fills divide, and such that they do not."""
    growths = (range(1, 10), (2, 4, 6), (8, 16, 24), (64, 128), (1, 3, 5, 995))
    return [skeleton for items in range(1, 25) for at, growth in enumerate(growths)
            for skeleton in some_skeletons(seed + 100 * items + at, many, items, growths=growth)]


def quick_program(source, skeleton):
    """Return a program whose reaches are about as great as its ways, however many jumps it has."""
    lengths = tuple(source.choice((0, 0, 1, 2, 3, 7, 64)) for _ in range(len(skeleton) + 1))
    jumps = jumps_in(skeleton)
    reaches = []
    for jump in jumps:
        choice = [other for other in jumps if source.random() < 0.4]
        reaches.append(max(0, way_in(skeleton, lengths, choice, jump) + source.choice((-2, -1, -1, 0, 0, 0, 1))))
    return (skeleton, lengths, tuple(reaches))


def quick_programs(seed, many, items, jumps, **more):
    source = random.Random(seed)
    return [quick_program(source, some_skeleton(source, items, jumps, **more)) for _ in range(many)]


def small_programs(seed):
    """Return programs of up to four jumps."""
    source = random.Random(seed)
    return [some_program(source, some_skeleton(source, items, jumps, growths=growths, fills=fills))
            for items, jumps in itertools.product((1, 2, 4, 5, 7, 9), range(5)) if jumps < items
            for growths, fills in ((range(1, 10), (2, 4, 8)), ((1, 3, 5), (4, 8, 16)), ((4, 8), (2, 4, 64)))
            for _ in range(7)]


# 24 items and eight jumps, with fills between all of them, forward, back, and both.
AMONG = {
    "forward": (("jump", 23, 2, 5), ("fill", 4)) * 8 + (("fill", 8),) * 7 + (LABEL,),
    "back": (LABEL,) + (("jump", 0, 2, 5), ("fill", 4), ("fill", 2)) * 7 + (("jump", 0, 2, 5), ("fill", 64)),
    "rising": tuple(
        item for size in (2, 4, 8, 16, 32, 64, 2, 4)
        for item in (("jump", 22, 1, 998), ("fill", size))) + (("fill", 64),) * 6 + (LABEL, ("fill", 2)),
    "both": (("jump", 11, 1, 4), ("fill", 8)) * 4 + (("fill", 16),) * 3 + (LABEL,)
    + (("fill", 4), ("jump", 11, 2, 9)) * 4 + (("fill", 2),) * 4,
    "far": (("jump", 1, 1, 2), LABEL) + (("jump", 23, 1, 2), ("fill", 2), ("fill", 64)) * 7 + (LABEL,),
}
# All fills divide these growths.
AMONG_STEADY = {
    name: tuple(("jump", item[1], 2, 66) if item[0] == "jump" else item for item in skeleton)
    for name, skeleton in AMONG.items()
}
REACHES = (0, 1, 5, 20, 70, 200, MOST)
