"""What the tests of desks share: a desk of their own, and edits that are drawn, right ones and wrong ones."""

from longernearer.errors import LayError, NothingToRedo
from longernearer.programs import program_error
from tests.samples import FILL_SIZES, LABEL, MOST, jumps_in
from tests.telling import HUGE, nested

TURN = (("jump", 4, 1, 2), ("jump", 3, 1, 3), ("fill", 4), LABEL, LABEL)
CODE = (TURN, (0, 0, 1, 0, 0, 0), (9, 7))
BARE = ((LABEL,), (7, 7), ())
FILLS = ((("fill", 2), ("fill", 64)), (1, 0, 3), ())
WRONG = (None, True, False, "", "0", "2", (), (0,), [], [2], {}, {2: 2}, -1, -2, HUGE, -HUGE, MOST + 1, nested(2, 15), LayError())


def made(program, edit):
    """Return the program that an edit makes, None if it does not fit."""
    skeleton, lengths, reaches = (list(part) for part in program)
    name, place, *rest = edit
    if type(place) is not int or not 0 <= place <= len(skeleton):
        return None
    kind = skeleton[place][0] if place < len(skeleton) else None
    if name == "lay":
        lengths[place] = rest[0]
    elif name == "reach" and kind == "jump":
        reaches[jumps_in(skeleton).index(place)] = rest[0]
    elif name == "size" and kind == "jump":
        skeleton[place] = ("jump", skeleton[place][1], *rest)
    elif name == "fill" and kind == "fill":
        skeleton[place] = ("fill", rest[0])
    else:
        return None
    after = (tuple(skeleton), tuple(lengths), tuple(reaches))
    return after if program_error(after) is None else None


class PlainDesk:
    """What a desk has to tell, by two lists."""

    def __init__(self, program):
        self.first, self.stand, self.gone = program, [], []

    def programs(self):
        found = [self.first]
        for edit in self.stand:
            found.append(made(found[-1], edit))
        return found

    def state(self):
        return (self.programs(), tuple(self.stand), len(self.stand), tuple(self.gone))

    def refusal(self, edit):
        """Return the name of the error with which an edit is refused, None if it is done."""
        if made(self.programs()[-1], edit) is None:
            return "Unfit"
        return "TooManyEdits" if len(self.stand) == 40 else None

    def do(self, edit):
        self.stand, self.gone = self.stand + [edit], []


def taken_back(desk):
    """Return the edits that were taken back, the last one first, by doing them again on a copy."""
    found, other = [], desk.copy()
    while True:
        try:
            other.redo()
        except NothingToRedo:
            return tuple(found[::-1])
        found.append(other.log[-1])


def state(desk):
    """Return all that a desk tells, in the order of a plain desk's state."""
    return ([desk.at(version) for version in range(desk.version + 1)], desk.log, desk.version, taken_back(desk))


def drawn_edit(source, program):
    """Return an edit of a program that mostly fits."""
    skeleton = program[0]
    kinds = {name: [place for place, item in enumerate(skeleton) if item[0] == kind]
             for name, kind in (("reach", "jump"), ("size", "jump"), ("fill", "fill"))}
    kinds["lay"] = list(range(len(skeleton) + 1))
    name = source.choice([name for name in kinds if kinds[name]])
    values = {"lay": [source.choice((0, 1, 7, MOST))], "reach": [source.choice((0, 3, 9, MOST))],
              "size": source.choice(([1, 2], [1, 999], [998, 999], [3, 9])), "fill": [source.choice(FILL_SIZES)]}[name]
    edit = [name, source.choice(kinds[name]), *values]
    if source.random() < 0.3:
        edit[source.randrange(1, len(edit))] = source.choice(WRONG + (0, 1, 2, 3, 4, 5, 24, 100, 1000))
    return tuple(edit)
