"""grown, row_holds, growing_ends: [A3], [C1], [C2], [C4]."""

import itertools

from longernearer.growing import grown, growing_ends, row_holds
from longernearer.laying import way_of
from tests.rowing import AMONG_FILLS, BACK, STEADY, RowsTests
from tests.samples import LABEL, MOST, bytewise_stuck, choices_of, some_programs
from tests.telling import TellingCase

SIDE = (("jump", 1, 2, 5), LABEL, ("jump", 4, 2, 3), ("fill", 4), LABEL)
SMALL = (SIDE, (0, 1, 0, 0, 0, 0), (0, 2))
CHAIN = (("jump", 2, 1, 3), ("jump", 3, 1, 4), LABEL, LABEL)
STEPS = (CHAIN, (0, 0, 5, 4, 0), (6, 8))


class GrowingTest(RowsTests, TellingCase):

    in_order = staticmethod(grown)
    holds = staticmethod(row_holds)
    ends = staticmethod(growing_ends)
    able = staticmethod(bytewise_stuck)

    def begin(self, program):
        return ()

    def test_bools_are_no_jumps(self):
        self.assert_tells(row_holds, True, program=STEPS, value=(1, 0))
        for value in ((True, False), (True, 0), (1, False), (False, True), (True,), (False,)):
            self.assert_tells(row_holds, False, program=STEPS, value=value)
        for value, expected in (((0,), True), ((False,), False), ((2, 0), True), ((2, False), False)):
            self.assert_tells(row_holds, expected, program=SMALL, value=value)

    def test_the_empty_row(self):
        for reaches, expected in (((0, 2), False), ((1, 2), False), ((0, 3), False), ((1, 3), True), ((MOST, MOST), True)):
            self.assert_tells(row_holds, expected, program=(*SMALL[:2], reaches), value=())

    def test_order_is_looked_for_anew(self):
        # Jump 0 is not stuck until jump 1 is long, and jump 2 is stuck from the beginning.
        skeleton = (("jump", 3, 1, 3), ("jump", 3, 1, 4), ("jump", 3, 1, 2), LABEL)
        program = (skeleton, (0,) * 5, (2, 0, MOST))
        self.assert_tells(grown, (1, 0), program=program, order=(0, 1, 2))
        program = (skeleton, (0, 0, 0, 9, 0), (11, 10, 8))
        self.assert_tells(grown, (2, 0, 1), program=program, order=(0, 1, 2))
        self.assert_tells(grown, (2, 1, 0), program=program, order=(1, 0, 2))
        self.assert_tells(growing_ends, ((0, 1, 2),), program=program)

    def test_eight_jumps_that_are_stuck(self):
        jumps = tuple(range(1, 9))
        program = (BACK, (0,) * 10, (0,) * 8)
        self.assert_tells(growing_ends, (jumps,), program=program)
        self.assert_tells(grown, (8, 7, 6, 5, 4, 3, 2, 1), program=program, order=jumps[::-1])
        self.assert_tells(row_holds, True, program=program, value=(3, 1, 4, 8, 5, 2, 6, 7))
        self.assert_tells(row_holds, False, program=program, value=(3, 1, 4, 8, 5, 2, 6))
        self.assert_tells(row_holds, False, program=program, value=(3, 1, 4, 8, 5, 2, 6, 7, 7))
        self.assert_tells(growing_ends, ((5, 6, 7, 8),), program=(BACK, (0,) * 10, (MOST,) * 4 + (0,) * 4))
        self.assert_tells(growing_ends, (tuple(range(0, 16, 2)),), program=(AMONG_FILLS, (MOST,) * 25, (0,) * 8))

    def test_all_rows_of_steady_skeletons_end_alike(self):
        for items, jumps in ((3, 1), (6, 3), (9, 4), (11, 5)):
            for program in some_programs(items, 30, items, jumps, **STEADY):
                serving = [set(choice) for choice in choices_of(program[0]) if not bytewise_stuck(program, choice)]
                least = tuple(sorted(set.intersection(*serving)))
                self.assertEqual(growing_ends(program), (least,))
                self.assertEqual(len({tuple(sorted(grown(program, order)))
                                      for order in itertools.islice(itertools.permutations(least), 6)}), 1)

    def test_a_loose_skeleton_has_a_program_with_two_ends(self):
        # As [C4] tells: reaches that are one less than the ways, all others far.
        sway = (("jump", 3, 2, 5), ("jump", 3, 2, 4), ("fill", 4), LABEL)
        for skeleton, lengths, jump, other in (
                (sway, (0, 0, 1, 0, 0), 1, 0),
                (SIDE, (0, 1, 0, 0, 0, 0), 2, 0),
                ((("jump", 1, 1, 2), LABEL, ("jump", 6, 1, 2), ("fill", 2), LABEL, ("jump", 4, 1, 2), LABEL),
                 (0, 64, 1, 0, 0, 0, 0, 0), 2, 0)):
            ways = {at: way_of(skeleton, lengths, (), at) for at in (jump, other)}
            reaches = tuple(ways.get(at, MOST + 1) - 1 for at, item in enumerate(skeleton) if item[0] == "jump")
            self.assertEqual(growing_ends((skeleton, lengths, reaches)), ((other,), (other, jump)))
