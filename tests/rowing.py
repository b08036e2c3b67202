"""What the tests of growing and of shrinking share: a going of their own, and what holds of both."""

import itertools
import time

from longernearer.errors import Loose, Unfit
from longernearer.laying import serves
from tests.samples import LABEL, MOST, jumps_in, some_programs, turned
from tests.telling import HUGE, NO_TUPLES, nested

# Jumps that all go back over all others, and jumps beside fills that they move.
BACK = (LABEL,) + (("jump", 0, 2, 5),) * 8
AMONG_FILLS = (("jump", 23, 2, 5), ("fill", 4)) * 8 + (("fill", 8),) * 7 + (LABEL,)
BETWEEN = (("jump", 23, 1, 4), ("fill", 4), ("jump", 23, 1, 3)) * 4 + (LABEL,) * 12
# Each fill divides these growths, so skeletons with them are steady.
STEADY = {"growths": (64, 128)}


def all_rows(program, begin, able):
    """Return the dict of all rows from begin on, each with its end; able tells which jumps can go on."""
    rows, begun = {}, [((), begin)]
    while begun:
        row, choice = begun.pop()
        ready = able(program, choice)
        if not ready:
            rows[row] = choice
        begun += [(row + (jump,), turned(choice, jump)) for jump in ready]
    return rows


def row_of(program, order, begin, able):
    """Return the row in which always the first jump in order that can goes on."""
    row, choice = [], begin
    while True:
        ready = [jump for jump in order if jump in able(program, choice)]
        if not ready:
            return tuple(row)
        row.append(ready[0])
        choice = turned(choice, ready[0])


def ends_of(program, begin, able):
    """Return the ascending tuple of all ends, going on with all choices of as many steps at once."""
    ends, level = set(), {begin}
    while level:
        ends |= {choice for choice in level if not able(program, choice)}
        level = {turned(choice, jump) for choice in level for jump in able(program, choice)}
    return tuple(sorted(ends))


def sample_programs():
    """Return programs of up to four jumps."""
    return [
        program for seed, (items, jumps) in enumerate(itertools.product((1, 2, 4, 5, 7, 10), range(5))) if jumps < items
        for program in some_programs(100 + seed, 25, items, jumps)
    ]


def no_rows(row):
    """Return values that are no rows, whichever row is handed in; so do parts of them."""
    values = [list(row), {jump: jump for jump in row}, (row,), [row], row + (None,), row + ([],), row + ({},), row + ((),)]
    values += [row + (item,) for item in ("", "0", -1, 24, HUGE, -HUGE, True, False, Unfit(), Loose(row), nested(0, 18))]
    values += [row[:at] + (wrong,) + row[at + 1:] for at, jump in enumerate(row)
               for wrong in (str(jump), [jump], (jump,), {jump: jump}, None, -1 - jump, jump + HUGE, Unfit())]
    return values


class RowsTests:
    """What holds for both; in_order, holds, ends, able and begin are set by who stands under it."""

    def assert_rows(self, program):
        """Look at the rows of all orders, and at all tuples of jumps, none more than once."""
        jumps = jumps_in(program[0])
        rows = all_rows(program, self.begin(program), self.able)
        for order in itertools.permutations(jumps):
            expected = row_of(program, order, self.begin(program), self.able)
            self.assertIn(expected, rows)
            self.assert_tells(self.in_order, expected, program=program, order=order)
        for many in range(len(jumps) + 1):
            for value in itertools.permutations(jumps, many):
                self.assert_tells(self.holds, value in rows, program=program, value=value)
        return rows

    def test_all_orders_of_up_to_four_jumps(self):
        many_rows = 0
        for program in sample_programs():
            rows = self.assert_rows(program)
            many_rows += len(rows) > 1
            for row, end in rows.items():
                # Each row ends with a choice that serves, behind as many steps at most as there are jumps.
                self.assertLessEqual(len(row), len(jumps_in(program[0])))
                self.assertIs(serves(program, end), True)
        self.assertGreater(many_rows, 20)

    def test_rows_with_jumps_more_than_once(self):
        for program in sample_programs()[::3]:
            jumps = jumps_in(program[0])
            rows = all_rows(program, self.begin(program), self.able)
            for many in range(4 if len(jumps) > 3 else 5):
                for value in itertools.product(jumps, repeat=many):
                    self.assert_tells(self.holds, value in rows, program=program, value=value)

    def test_rows_that_were_changed(self):
        for program in sample_programs()[::2]:
            rows = all_rows(program, self.begin(program), self.able)
            others = [place for place in range(-1, 12) if place not in jumps_in(program[0])]
            for row in list(rows)[:2]:
                values = [row[:at] + row[at + 1:] for at in range(len(row))]
                values += [row[:at] + (jump,) + row[at:] for at in range(len(row) + 1) for jump in (*row, *others)]
                values += [row[:at] + (other,) + row[at + 1:] for at in range(len(row)) for other in others]
                values += [row[:at] + row[at:at + 2][::-1] + row[at + 2:] for at in range(len(row) - 1)]
                for value in values:
                    self.assert_tells(self.holds, value in rows, program=program, value=value)

    def test_values_that_are_no_rows(self):
        for program in sample_programs()[::9]:
            rows = list(all_rows(program, self.begin(program), self.able))
            for value in NO_TUPLES + tuple(no_rows(rows[0])) + tuple(no_rows(rows[-1])):
                self.assert_tells(self.holds, False, program=program, value=value)
            self.assert_tells(self.holds, False, program=program, value=(rows[0] or (0,)) * 1300)
            self.assert_tells(self.holds, False, program=program, value=program)

    def test_ends_of_up_to_four_jumps(self):
        many_ends = 0
        for program in sample_programs():
            ends = tuple(sorted(set(all_rows(program, self.begin(program), self.able).values())))
            self.assert_tells(self.ends, ends, program=program)
            many_ends += len(ends) > 1
        self.assertGreater(many_ends, 5)

    def test_ends_of_more_jumps(self):
        for items, jumps, many in ((8, 5, 8), (14, 6, 6), (16, 7, 5), (18, 8, 4), (24, 8, 4)):
            for program in some_programs(items, many, items, jumps):
                expected = ends_of(program, self.begin(program), self.able)
                self.assert_tells(self.ends, expected, program=program)
                for order in (jumps_in(program[0]), jumps_in(program[0])[::-1]):
                    row = row_of(program, order, self.begin(program), self.able)
                    self.assert_tells(self.in_order, row, program=program, order=order)
                    self.assert_tells(self.holds, True, program=program, value=row)

    def test_eight_jumps_in_time(self):
        begun = time.process_time()
        for skeleton in (BACK, AMONG_FILLS, BETWEEN):
            for length, reach in itertools.product((0, 1, 64, MOST), (0, 1, 5, 20, 70, MOST)):
                program = (skeleton, (length,) * (len(skeleton) + 1), (reach,) * 8)
                ends = self.ends(program)
                self.assertEqual(ends, tuple(sorted(set(ends))))
                for end in ends:
                    self.assertIs(serves(program, end), True)
        # Going through all orders takes longer for a single one of these.
        self.assertLess(time.process_time() - begun, 20)

    def test_without_jumps(self):
        for skeleton in ((LABEL,), (("fill", 2),), (LABEL, ("fill", 64)) * 12):
            program = (skeleton, (MOST,) * (len(skeleton) + 1), ())
            self.assert_tells(self.in_order, (), program=program, order=())
            self.assert_tells(self.holds, True, program=program, value=())
            self.assert_tells(self.holds, False, program=program, value=[])
            self.assert_tells(self.holds, False, program=program, value=(0,))
            self.assert_tells(self.ends, ((),), program=program)
