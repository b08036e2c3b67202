"""What the tests share: skeletons and programs to look at, and a laying of their own, byte by byte."""

import functools
import itertools
import random

LABEL = ("label",)
FILL_SIZES = (2, 4, 8, 16, 32, 64)
MOST = 10 ** 9


def jumps_in(skeleton):
    return tuple(place for place, item in enumerate(skeleton) if item[0] == "jump")


def choices_of(skeleton):
    """Return all choices of a skeleton."""
    jumps = jumps_in(skeleton)
    return [choice for many in range(len(jumps) + 1) for choice in itertools.combinations(jumps, many)]


def bytewise(skeleton, lengths, choice):
    """Return of each byte by what it came, and the pairs (begin, end) of all items."""
    room, spots = [], []
    for place, item in enumerate(skeleton):
        room += [("length", place)] * lengths[place]
        begin = len(room)
        if item[0] == "fill":
            while len(room) % item[1] != 0:
                room.append(("item", place))
        elif item[0] == "jump":
            room += [("item", place)] * (item[3] if place in choice else item[2])
        spots.append((begin, len(room)))
    room += [("length", len(skeleton))] * lengths[-1]
    return room, tuple(spots)


def bytes_in_way(skeleton, jump):
    """Return by what the bytes come that are counted in the way of jump."""
    goal = skeleton[jump][1]
    if goal > jump:
        lengths, items = range(jump + 1, goal + 1), range(jump + 1, goal)
    else:
        lengths, items = range(goal + 1, jump + 1), range(goal + 1, jump + 1)
    return {("length", place) for place in lengths} | {("item", place) for place in items}


def bytewise_way(skeleton, lengths, choice, jump):
    """Return how many bytes of all are counted in the way of jump."""
    room = bytewise(skeleton, lengths, [other for other in choice if other != jump])[0]
    counted = bytes_in_way(skeleton, jump)
    return len([byte for byte in room if byte in counted])


@functools.cache
def bytewise_stuck(program, choice):
    skeleton, lengths, reaches = program
    return tuple(
        jump for jump, reach in zip(jumps_in(skeleton), reaches)
        if jump not in choice and bytewise_way(skeleton, lengths, choice, jump) > reach
    )


def turned(choice, jump):
    """Return choice with jump in it if it is not, without it if it is."""
    return tuple(sorted({*choice} ^ {jump}))


def bytewise_spare(program, choice):
    """Return the jumps of a choice without which it serves."""
    return tuple(jump for jump in choice if not bytewise_stuck(program, turned(choice, jump)))


def some_skeleton(source, items, jumps, fills=FILL_SIZES, growths=range(1, 10)):
    """Return a skeleton of so many items and jumps, as source, a random.Random, has it."""
    labels = source.randint(1, items - jumps)
    kinds = ["jump"] * jumps + ["label"] * labels + ["fill"] * (items - jumps - labels)
    source.shuffle(kinds)
    goals = [place for place, kind in enumerate(kinds) if kind == "label"]
    row = []
    for kind in kinds:
        if kind == "label":
            row.append(LABEL)
        elif kind == "fill":
            row.append(("fill", source.choice(fills)))
        else:
            short = source.randint(1, 4)
            row.append(("jump", source.choice(goals), short, short + source.choice(growths)))
    return tuple(row)


def some_program(source, skeleton):
    """Return a program with this skeleton whose reaches are about as great as its ways."""
    lengths = tuple(source.choice((0, 0, 1, 2, 3, 7)) for _ in range(len(skeleton) + 1))
    choices = choices_of(skeleton)
    reaches = []
    for jump in jumps_in(skeleton):
        way = bytewise_way(skeleton, lengths, source.choice(choices), jump)
        reaches.append(max(0, way + source.choice((-2, -1, -1, 0, 0, 0, 1))))
    return (skeleton, lengths, tuple(reaches))


def some_programs(seed, many, items, jumps, **more):
    """Return so many programs, the same ones for the same arguments."""
    source = random.Random(seed)
    return [some_program(source, some_skeleton(source, items, jumps, **more)) for _ in range(many)]
