"""Desks: a program under edits that can be taken back and done again."""

from longernearer.bounds import MAX_EDITS
from longernearer.choosing import least_choice
from longernearer.edits import edited
from longernearer.errors import BadLog, BadProgram, NothingToRedo, NothingToUndo, NoVersion, TooManyEdits, Unfit
from longernearer.growing import grown
from longernearer.integers import is_integer, is_integer_from_to
from longernearer.programs import program_error
from longernearer.skeletons import jumps_of


class Desk:
    """A program, the edits that changed it, and those taken back."""

    def __init__(self, program):
        error = program_error(program)
        if error is not None:
            raise BadProgram(error)
        # As many edits stand as the version tells, those behind were taken back; ahead of each, and
        # behind the last one, there is the program as it was then.
        self._edits = ()
        self._programs = (program,)
        self._version = 0

    @property
    def program(self):
        """The program that stands."""
        return self._programs[self._version]

    @property
    def version(self):
        """How many edits stand."""
        return self._version

    @property
    def log(self):
        """The tuple of the edits that stand, in order."""
        return self._edits[:self._version]

    def lay(self, place, value):
        """Make the length at place value; return the new version."""
        return self._edit(("lay", place, value))

    def reach(self, jump, value):
        """Make the reach of jump value; return the new version."""
        return self._edit(("reach", jump, value))

    def size(self, jump, short, long):
        """Make the sizes of jump short and long; return the new version."""
        return self._edit(("size", jump, short, long))

    def fill(self, place, value):
        """Make the fill at place a fill to value; return the new version."""
        return self._edit(("fill", place, value))

    def undo(self):
        """Take the last edit that stands back; return the version."""
        if self._version == 0:
            raise NothingToUndo()
        self._version = self._version - 1
        return self._version

    def redo(self):
        """Do the last edit taken back again; return the version."""
        if self._version == len(self._edits):
            raise NothingToRedo()
        self._version = self._version + 1
        return self._version

    def at(self, value):
        """Return the program behind the first value edits of the log."""
        if not is_integer_from_to(value, 0, self._version):
            raise NoVersion(value)
        return self._programs[value]

    def least(self):
        """Return the least choice of the program that stands; raise NoLeast(paper) if there is none."""
        return least_choice(self.program)

    def grown_in(self, order):
        """Return the row of growing of the program that stands in this order of its jumps."""
        if not _is_order(self.program[0], order):
            raise Unfit()
        return grown(self.program, order)

    def copy(self):
        """Return a new desk with the same program, edits and edits taken back."""
        desk = Desk(self._programs[0])
        desk._edits = self._edits
        desk._programs = self._programs
        desk._version = self._version
        return desk

    def __eq__(self, other):
        return isinstance(other, Desk) and self.program == other.program

    def _edit(self, edit):
        """Do an edit, any value, and forget those taken back; return the new version."""
        made = edited(self.program, edit)
        if self._version == MAX_EDITS:
            raise TooManyEdits()
        self._edits = self.log + (edit,)
        self._programs = self._programs[:self._version + 1] + (made,)
        self._version = self._version + 1
        return self._version


def desk_behind(program, log):
    """Return a new desk with program on which all edits of log were done, one behind another."""
    desk = Desk(program)
    if not isinstance(log, tuple):
        raise BadLog(0)
    for place, edit in enumerate(log):
        try:
            desk._edit(edit)
        except (Unfit, TooManyEdits):
            raise BadLog(place) from None
    return desk


def _is_order(skeleton, value):
    """Tell whether value, any value, is a tuple of all jumps of skeleton, each once."""
    if not isinstance(value, tuple) or not all([is_integer(item) for item in value]):
        return False
    return sorted(value) == list(jumps_of(skeleton))
