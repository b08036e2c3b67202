"""The errors of the package: each stands directly under LayError."""


class LayError(ValueError):
    """Any failure that the package tells of."""


class Unfit(LayError):
    """What was handed in does not fit."""


class BadText(LayError):
    """The value is the text of nothing."""


class Steady(LayError):
    """The skeleton is steady, so what was asked for is not there."""


class Loose(LayError):
    """The skeleton is loose, as triple shows."""

    def __init__(self, triple):
        super().__init__("the skeleton is loose")
        self.triple = triple


class Untied(LayError):
    """No two jumps of the skeleton are tied."""


class NoLeast(LayError):
    """The program has no least choice, as paper shows."""

    def __init__(self, paper):
        super().__init__("there is no least choice")
        self.paper = paper


class BadProgram(LayError):
    """The value is no program, as error tells."""

    def __init__(self, error):
        super().__init__("this is no program")
        self.error = error


class TooManyEdits(LayError):
    """As many edits stand as may stand."""


class NothingToUndo(LayError):
    """No edit stands."""


class NothingToRedo(LayError):
    """No edit was taken back."""


class NoVersion(LayError):
    """There is no version given."""

    def __init__(self, given):
        super().__init__("there is no such version")
        self.given = given


class BadLog(LayError):
    """The log cannot be done from place on."""

    def __init__(self, place):
        super().__init__("the log cannot be done")
        self.place = place
