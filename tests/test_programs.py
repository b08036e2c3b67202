"""lengths_error, reaches_error, program_error, choice_error: [A3], [A6], [A7]."""

from longernearer.errors import BadProgram, Unfit
from longernearer.programs import choice_error, lengths_error, program_error, reaches_error
from tests.telling import HUGE, NO_INTEGERS, NO_TUPLES, TellingCase, nested

MOST = 10 ** 9
LABEL = ("label",)
FILL = ("fill", 4)
JUMP = ("jump", 0, 1, 2)
BARE = (LABEL,)
TURN = (("jump", 4, 1, 2), ("jump", 3, 1, 3), FILL, LABEL, LABEL)
MIXED = (LABEL, JUMP, FILL, JUMP, LABEL, JUMP)
EIGHT = (LABEL,) + (JUMP,) * 8
LONGEST = (LABEL,) + (FILL,) * 15 + (JUMP,) * 8
SKELETONS = (BARE, (FILL,), TURN, MIXED, EIGHT, LONGEST)

RIGHT_NUMBERS = (0, 1, 2, 999, 10 ** 6, MOST - 1, MOST)
WRONG_NUMBERS = NO_INTEGERS + (-1, -2, -MOST, MOST + 1, 2 * MOST, HUGE, -HUGE, nested(0, 18))


def jumps_in(skeleton):
    return [place for place in range(len(skeleton)) if skeleton[place][0] == "jump"]


class RowErrorCase(TellingCase):
    """What holds for lengths and reaches alike."""

    def assert_rows(self, function, word, skeleton, many):
        for number in RIGHT_NUMBERS:
            self.assert_tells(function, None, skeleton=skeleton, value=(number,) * many)
        for place in range(many):
            self.assert_wrong_place(function, word, skeleton, many, place)

    def assert_wrong_place(self, function, word, skeleton, many, place):
        for wrong in WRONG_NUMBERS:
            row = (7,) * place + (wrong,) + (0,) * (many - place - 1)
            self.assert_tells(function, (word, place), skeleton=skeleton, value=row)
            row = (7,) * place + (wrong,) * (many - place)
            self.assert_tells(function, (word, place), skeleton=skeleton, value=row)

    def assert_forms(self, function, skeleton, many):
        for other in (many - 1, many + 1, many + 2, 100):
            if other >= 0:
                self.assert_tells(function, "form", skeleton=skeleton, value=(0,) * other)
                # The number of items is looked at ahead of the items.
                if other > 0:
                    self.assert_tells(function, "form", skeleton=skeleton, value=(None,) * other)
        for value in NO_TUPLES + ([0] * many, "0" * many, dict.fromkeys(range(many), 0), [None] * many):
            self.assert_tells(function, "form", skeleton=skeleton, value=value)


class LengthsErrorTest(RowErrorCase):

    def test_rows(self):
        for skeleton in (BARE, TURN, MIXED):
            self.assert_rows(lengths_error, "length", skeleton, len(skeleton) + 1)
        self.assert_wrong_place(lengths_error, "length", LONGEST, 25, 24)

    def test_forms(self):
        for skeleton in SKELETONS:
            self.assert_forms(lengths_error, skeleton, len(skeleton) + 1)
            self.assert_tells(lengths_error, None, skeleton=skeleton, value=(MOST,) * (len(skeleton) + 1))
            self.assert_tells(lengths_error, "form", skeleton=skeleton, value=())

    def test_two_wrong_places(self):
        self.assert_tells(lengths_error, ("length", 1), skeleton=TURN, value=(0, -1, 0, MOST + 1, 0, 0))
        self.assert_tells(lengths_error, ("length", 3), skeleton=TURN, value=(0, 1, 0, MOST + 1, None, 0))


class ReachesErrorTest(RowErrorCase):

    def test_rows(self):
        for skeleton in SKELETONS:
            self.assert_rows(reaches_error, "reach", skeleton, len(jumps_in(skeleton)))

    def test_forms(self):
        for skeleton in SKELETONS:
            self.assert_forms(reaches_error, skeleton, len(jumps_in(skeleton)))

    def test_without_jumps(self):
        self.assert_tells(reaches_error, None, skeleton=BARE, value=())
        self.assert_tells(reaches_error, "form", skeleton=BARE, value=(0,))
        self.assert_tells(reaches_error, "form", skeleton=BARE, value=[])
        self.assert_tells(reaches_error, "form", skeleton=TURN, value=())

    def test_place_is_counted_in_value(self):
        self.assert_tells(reaches_error, ("reach", 2), skeleton=MIXED, value=(0, 0, -1))
        self.assert_tells(reaches_error, ("reach", 1), skeleton=MIXED, value=(0, -1, -1))


class ProgramErrorTest(TellingCase):

    def assert_error(self, expected, *parts):
        self.assert_tells(program_error, expected, value=parts)

    def test_programs(self):
        for skeleton in SKELETONS:
            for number in RIGHT_NUMBERS:
                self.assert_error(None, skeleton, (number,) * (len(skeleton) + 1), (number,) * len(jumps_in(skeleton)))

    def test_forms(self):
        right = (TURN, (0,) * 6, (9, 7))
        for value in NO_TUPLES + ((), right[:1], right[:2], right + ((),), right + right, list(right), {0: TURN},
                                  {"skeleton": TURN, "lengths": (0,) * 6, "reaches": (9, 7)}, BadProgram("form")):
            self.assert_tells(program_error, "form", value=value)
        self.assert_error("form", None, None)
        self.assert_error("form", None, None, None, None)

    def test_wrong_skeletons(self):
        for skeleton, error in (((), "form"), ([LABEL], "form"), (None, "form"), (True, "form"), (Unfit(), "form"),
                                ((None,), ("item", 0)), ((LABEL, ["label"]), ("item", 1)),
                                ((LABEL, ("fill", 3)), ("item", 1)), ((LABEL, ("jump", 1, 1, 2)), ("goal", 1)),
                                ((LABEL,) + (JUMP,) * 9, "jumps"), ((LABEL,) * 25, "form")):
            many = len(skeleton) if isinstance(skeleton, (tuple, list)) else 0
            self.assert_error(("skeleton", error), skeleton, (0,) * (many + 1), ())
            self.assert_error(("skeleton", error), skeleton, None, None)
            self.assert_error(("skeleton", error), skeleton, (-1,) * (many + 1), [])

    def test_wrong_lengths(self):
        for lengths, error in (((), "form"), ((0,) * 5, "form"), ((0,) * 7, "form"), ([0] * 6, "form"), (0, "form"),
                               (None, "form"), (Unfit(), "form"), ((0, 0, 0, 0, 0, True), ("length", 5)),
                               ((-1,) * 6, ("length", 0)), ((0, MOST, MOST + 1, 0, 0, None), ("length", 2))):
            for reaches in ((9, 7), (9,), None, (-1, -1)):
                self.assert_error(("lengths", error), TURN, lengths, reaches)

    def test_wrong_reaches(self):
        for reaches, error in (((), "form"), ((9,), "form"), ((9, 7, 7), "form"), ([9, 7], "form"), (97, "form"),
                               (None, "form"), ((False, 7), ("reach", 0)), ((9, "7"), ("reach", 1)),
                               ((-9, -7), ("reach", 0)), ((9, MOST + 1), ("reach", 1))):
            self.assert_error(("reaches", error), TURN, (0,) * 6, reaches)

    def test_parts_exchanged(self):
        self.assert_error(("skeleton", ("item", 0)), (0,) * 6, TURN, (9, 7))
        self.assert_error(("lengths", "form"), TURN, (9, 7), (0,) * 6)
        self.assert_error(("lengths", ("length", 0)), (LABEL, JUMP, JUMP), ((),) * 4, (1, 2))


class ChoiceErrorTest(TellingCase):

    def assert_error(self, expected, skeleton, *jumps):
        self.assert_tells(choice_error, expected, skeleton=skeleton, value=jumps)

    def test_choices(self):
        for skeleton in SKELETONS:
            jumps = jumps_in(skeleton)
            for number in range(2 ** len(jumps)):
                self.assert_error(None, skeleton, *[jump for at, jump in enumerate(jumps) if number >> at & 1])

    def test_forms(self):
        for value in NO_TUPLES + ([0], [0, 1], [9], {0: 1}, "01"):
            for skeleton in (BARE, TURN):
                self.assert_tells(choice_error, "form", skeleton=skeleton, value=value)

    def test_what_is_no_jump(self):
        for item in NO_INTEGERS + (-1, -2, -5, 2, 3, 4, 5, 24, HUGE, -HUGE, nested(0, 18), TURN[0]):
            self.assert_error(("jump", 0), TURN, item)
            self.assert_error(("jump", 1), TURN, 0, item)
            self.assert_error(("jump", 0), TURN, item, 0, 1)
            self.assert_error(("jump", 2), TURN, 0, 1, item, item)
        for item in (0, 2, 4, 6, -1, -3, True):
            self.assert_error(("jump", 0), MIXED, item)
        self.assert_error(("jump", 0), BARE, 0)
        self.assert_error(("jump", 0), EIGHT, 0)
        self.assert_error(("jump", 8), EIGHT, *range(1, 10))

    def test_order(self):
        self.assert_error(("order", 1), TURN, 1, 0)
        self.assert_error(("order", 1), TURN, 0, 0)
        self.assert_error(("order", 1), TURN, 1, 1)
        self.assert_error(("order", 2), TURN, 0, 1, 0)
        self.assert_error(("order", 2), TURN, 0, 1, 1)
        self.assert_error(("order", 1), MIXED, 5, 3, 1)
        self.assert_error(("order", 2), MIXED, 1, 5, 3)
        self.assert_error(("order", 1), MIXED, 3, 1, 5)
        self.assert_error(("order", 8), EIGHT, *range(1, 9), 8)
        self.assert_error(("order", 1), EIGHT, *[1] * 4000)

    def test_no_jump_applies_ahead_of_order(self):
        self.assert_error(("jump", 2), TURN, 1, 0, 2)
        self.assert_error(("jump", 3), TURN, 1, 0, 0, None)
        self.assert_error(("jump", 0), TURN, True, 0)
        self.assert_error(("jump", 1), TURN, 1, False, 0)
        self.assert_error(("jump", 1), MIXED, 5, 4, 3)
        self.assert_error(("jump", 2), MIXED, 5, 3, 0)
