"""parted, parted_holds: [A3], [D4], [D6]."""

import itertools
import time

from longernearer.errors import Steady
from longernearer.growing import growing_ends, row_holds
from longernearer.parting import parted, parted_holds
from longernearer.programs import program_error
from tests.changed import changed, of_all_kinds
from tests.looks import (
    AMONG, AMONG_STEADY, is_program_of, is_row_of_growing, skeletons_of_all_sizes, small_programs, stuck_in, triples_in,
)
from tests.rowing import all_rows
from tests.samples import LABEL
from tests.telling import TellingCase

SWAY = (("jump", 3, 2, 5), ("jump", 3, 2, 4), ("fill", 4), LABEL)
CALM = (("jump", 3, 2, 6),) + SWAY[1:]
LEVEL = (("jump", 4, 2, 5), ("fill", 4), ("jump", 4, 2, 4), ("fill", 4), LABEL)
SPLIT = (SWAY, (0, 0, 1, 0, 0), (5, 3))


def is_parted_triple(skeleton, value):
    """Tell whether value is a program with skeleton and two rows of growing of it that end unlike."""
    if type(value) is not tuple or len(value) != 3 or not is_program_of(skeleton, value[0]):
        return False
    return all(is_row_of_growing(value[0], row) for row in value[1:]) and set(value[1]) != set(value[2])


class PartedTest(TellingCase):

    def assert_parted(self, skeleton):
        """Look at parted, and tell whether there is such a program."""
        if not triples_in(skeleton):
            self.assert_refuses(parted, Steady, {}, skeleton=skeleton)
            return False
        value = self.told(parted, skeleton=skeleton)
        self.assertIs(type(value), tuple)
        program, one, other = value
        self.assertIsNone(program_error(program))
        self.assertEqual(program[0], skeleton)
        self.assertTrue(is_row_of_growing(program, one) and is_row_of_growing(program, other))
        self.assertNotEqual(set(one), set(other))
        self.assertGreater(len(growing_ends(program)), 1)
        self.assert_tells(parted_holds, True, skeleton=skeleton, value=value)
        self.assert_tells(parted_holds, True, skeleton=skeleton, value=(program, other, one))
        return True

    def test_skeletons_of_all_sizes(self):
        found = [self.assert_parted(skeleton) for skeleton in skeletons_of_all_sizes(4, 5)]
        self.assertGreater(found.count(True), 100)
        self.assertGreater(found.count(False), 100)

    def test_eight_jumps_and_fills_between_all(self):
        begun = time.process_time()
        for skeleton in (*AMONG.values(), *AMONG_STEADY.values(), CALM, LEVEL, (LABEL,)):
            self.assert_parted(skeleton)
        self.assertLess(time.process_time() - begun, 20)

    def test_ways_without_bytes(self):
        # The jump 0 stands straight ahead of its label, or around it, or just behind it.
        for first in ((("jump", 1, 1, 2), LABEL), (LABEL, ("jump", 0, 1, 2)), (LABEL, ("jump", 0, 1, 2), LABEL),
                      (("jump", 2, 1, 2), LABEL, LABEL)):
            here = len(first)
            for size in (2, 64):
                self.assert_parted(first + (("jump", here + 2, 1, 2), ("fill", size), LABEL))
                self.assert_parted(first + (LABEL, ("fill", size), ("jump", here, 1, 2)))

    def test_jumps_around_both(self):
        for size, growth in itertools.product((2, 8, 64), (1, 3, 7)):
            self.assert_parted((("jump", 5, 1, 1 + growth), ("jump", 4, 1, 9), ("jump", 5, 3, 4), ("fill", size), LABEL, LABEL))
            self.assert_parted((LABEL, ("jump", 5, 1, 1 + growth), ("jump", 0, 1, 5), LABEL, ("fill", size), LABEL,
                                ("jump", 3, 1, 2)))


class PartedHoldsTest(TellingCase):

    def assert_look(self, skeleton, value):
        self.assert_tells(parted_holds, is_parted_triple(skeleton, value), skeleton=skeleton, value=value)

    def test_all_pairs_of_rows(self):
        found = 0
        for program in [SPLIT] + small_programs(31)[::2]:
            rows = list(all_rows(program, (), stuck_in))[:10]
            for one, other in itertools.product(rows, repeat=2):
                found += is_parted_triple(program[0], (program, one, other))
                self.assert_look(program[0], (program, one, other))
        self.assertGreater(found, 10)

    def test_rows_that_end_alike(self):
        alike = 0
        for program in small_programs(32):
            rows = all_rows(program, (), stuck_in)
            for one, other in itertools.islice(itertools.combinations(rows, 2), 12):
                if rows[one] == rows[other]:
                    alike += 1
                    self.assertTrue(row_holds(program, one) and row_holds(program, other))
                    self.assert_tells(parted_holds, False, skeleton=program[0], value=(program, one, other))
        self.assertGreater(alike, 30)

    def test_triples_that_were_changed(self):
        right = 0
        for skeleton in [SWAY] + [skeleton for skeleton in skeletons_of_all_sizes(5, 1) if triples_in(skeleton)][::12]:
            for value in changed(parted(skeleton)):
                right += is_parted_triple(skeleton, value)
                self.assert_look(skeleton, value)
        self.assertGreater(right, 10)

    def test_other_skeletons(self):
        value = parted(SWAY)
        for skeleton in (CALM, SWAY[:3] + (LABEL, LABEL), (LABEL,), (("jump", 3, 2, 7),) + SWAY[1:]):
            self.assert_tells(parted_holds, False, skeleton=skeleton, value=value)
            self.assert_tells(parted_holds, False, skeleton=SWAY, value=((skeleton, *value[0][1:]), *value[1:]))

    def test_parts_of_other_kinds(self):
        self.assert_tells(parted_holds, True, skeleton=SWAY, value=(SPLIT, (0,), (1, 0)))
        for value in ((SPLIT, (False,), (1, 0)), (SPLIT, (0,), (True, 0)), (SPLIT, (0,), (1, False)), (SPLIT, [0], (1, 0)),
                      (SPLIT, (0,), [1, 0]), (list(SPLIT), (0,), (1, 0)), ((SWAY, (0, 0, True, 0, 0), (5, 3)), (0,), (1, 0)),
                      (SPLIT, (0,)), (SPLIT, (0,), (1, 0), ()), (SPLIT, (0,), (1, 0, 0)), (SPLIT, (0, 0), (1, 0)),
                      (SPLIT, (), (1, 0)), (SPLIT, (0,), (1,)), (SPLIT, (0,), (0, 1)), (SPLIT, (1, 0), (1, 0)),
                      (SPLIT, {0: 0}, (1, 0)), (SPLIT, ([0],), ({}, 0)), (SPLIT, (2,), (1, 0)), (SPLIT, "0", "10"),
                      (SWAY, (0,), (1, 0)), ((0,), SPLIT, (1, 0)), (SPLIT, (-4,), (1, 0))):
            self.assert_tells(parted_holds, False, skeleton=SWAY, value=value)

    def test_values_of_all_kinds(self):
        for skeleton in (SWAY, CALM, (LABEL,)):
            for value in of_all_kinds((SPLIT, (0,), (1, 0))) + (SPLIT, SWAY, SPLIT * 1000, (SPLIT,) * 3):
                self.assert_tells(parted_holds, False, skeleton=skeleton, value=value)
