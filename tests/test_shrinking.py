"""shrunk, shrink_holds, shrinking_ends: [A3], [C1], [C3], [C4]."""

from longernearer.growing import growing_ends
from longernearer.laying import in_way, serves, way_of
from longernearer.shrinking import shrink_holds, shrinking_ends, shrunk
from tests.rowing import AMONG_FILLS, BACK, STEADY, RowsTests
from tests.samples import LABEL, MOST, bytewise_spare, jumps_in, some_programs, turned
from tests.telling import TellingCase

SIDE = (("jump", 1, 2, 5), LABEL, ("jump", 4, 2, 3), ("fill", 4), LABEL)
SMALL = (SIDE, (0, 1, 0, 0, 0, 0), (0, 2))
CHAIN = (("jump", 2, 1, 3), ("jump", 3, 1, 4), LABEL, LABEL)
STEPS = (CHAIN, (0, 0, 5, 4, 0), (6, 9))
TIED = (LABEL, ("jump", 3, 2, 4), ("jump", 0, 2, 4), LABEL)


def tied(skeleton):
    """Return the pairs of jumps that stand in each other's way."""
    jumps = jumps_in(skeleton)
    return [(one, other) for one in jumps for other in jumps
            if one < other and other in in_way(skeleton, one) and one in in_way(skeleton, other)]


class ShrinkingTest(RowsTests, TellingCase):

    in_order = staticmethod(shrunk)
    holds = staticmethod(shrink_holds)
    ends = staticmethod(shrinking_ends)
    able = staticmethod(bytewise_spare)

    def begin(self, program):
        return jumps_in(program[0])

    def test_bools_are_no_jumps(self):
        self.assert_tells(shrink_holds, True, program=STEPS, value=(1, 0))
        for value in ((True, False), (True, 0), (1, False), (False, True), (True,), (False,)):
            self.assert_tells(shrink_holds, False, program=STEPS, value=value)

    def test_the_empty_row(self):
        for reaches, expected in (((2, 4), True), ((0, 0), True), ((3, 5), True), ((4, 4), False), ((2, 6), False)):
            self.assert_tells(shrink_holds, expected, program=(TIED, (0,) * 5, reaches), value=())

    def test_order_is_looked_for_anew(self):
        # With jump 1 long jump 0 has to be long; jump 2 may become short at once.
        skeleton = (("jump", 3, 1, 3), ("jump", 3, 1, 4), ("jump", 3, 1, 2), LABEL)
        program = (skeleton, (0,) * 5, (2, 1, 0))
        self.assert_tells(shrunk, (2, 1, 0), program=program, order=(0, 1, 2))
        self.assert_tells(shrunk, (2, 1, 0), program=program, order=(2, 0, 1))
        program = (skeleton, (0,) * 5, (5, 2, 0))
        self.assert_tells(shrunk, (1, 0, 2), program=program, order=(0, 1, 2))
        self.assert_tells(shrunk, (2, 0, 1), program=program, order=(2, 0, 1))
        self.assert_tells(shrinking_ends, ((),), program=program)

    def test_each_step_serves(self):
        # Without jump 1 the jump 0 would reach, but jump 1 itself does not.
        program = (CHAIN, (0, 0, 5, 4, 0), (6, 8))
        self.assert_tells(shrunk, (), program=program, order=(0, 1))
        self.assert_tells(shrinking_ends, ((0, 1),), program=program)

    def test_ends_leave_out_no_single_jump_more(self):
        for program in some_programs(3, 60, 9, 4):
            for end in shrinking_ends(program):
                self.assertIs(serves(program, end), True)
                self.assertNotIn(True, [serves(program, turned(end, jump)) for jump in end])

    def test_eight_jumps(self):
        jumps = tuple(range(1, 9))
        program = (BACK, (0,) * 10, (MOST,) * 8)
        self.assert_tells(shrinking_ends, ((),), program=program)
        self.assert_tells(shrunk, (8, 7, 6, 5, 4, 3, 2, 1), program=program, order=jumps[::-1])
        self.assert_tells(shrink_holds, True, program=program, value=(3, 1, 4, 8, 5, 2, 6, 7))
        self.assert_tells(shrink_holds, False, program=program, value=(3, 1, 4, 8, 5, 2, 6))
        self.assert_tells(shrinking_ends, (jumps,), program=(BACK, (0,) * 10, (0,) * 8))
        self.assert_tells(shrinking_ends, ((5, 6, 7, 8),), program=(BACK, (0,) * 10, (MOST,) * 4 + (0,) * 4))
        self.assert_tells(shrinking_ends, (tuple(range(0, 16, 2)),), program=(AMONG_FILLS, (MOST,) * 25, (0,) * 8))

    def test_steady_skeletons_without_tied_jumps(self):
        found = 0
        for items, jumps in ((3, 1), (6, 3), (9, 4), (11, 4)):
            for program in some_programs(items, 60, items, jumps, **STEADY):
                if not tied(program[0]):
                    found += 1
                    self.assertEqual(shrinking_ends(program), growing_ends(program))
        self.assertGreater(found, 60)

    def test_tied_jumps_that_just_reach(self):
        # As [C4] tells: both ways are just reached, all others are far.
        found = 0
        for program in some_programs(7, 60, 8, 4, **STEADY):
            skeleton = program[0]
            lengths = tuple(64 * (place % 2) for place in range(9))
            for pair in tied(skeleton):
                found += 1
                ways = {jump: way_of(skeleton, lengths, (), jump) for jump in pair}
                reaches = tuple(ways.get(jump, MOST) for jump in jumps_in(skeleton))
                self.assertEqual(shrinking_ends((skeleton, lengths, reaches)), (pair,))
                self.assertEqual(growing_ends((skeleton, lengths, reaches)), ((),))
        self.assertGreater(found, 10)
