"""serving, least_choice, least_holds, fewest_bytes: [A3], [G1] to [G5]."""

import itertools
import time

from longernearer.choosing import fewest_bytes, least_choice, least_holds, serving
from longernearer.errors import NoLeast
from longernearer.growing import grown, growing_ends
from longernearer.shrinking import shrinking_ends
from tests.changed import changed, of_all_kinds
from tests.looks import (
    AMONG, AMONG_STEADY, REACHES, bytes_in_all, is_paper, least_in, quick_programs, serving_in, small_programs, tied_in,
    triples_in,
)
from tests.samples import LABEL, MOST, choices_of, jumps_in
from tests.telling import TellingCase

NEAR = (("jump", 1, 2, 5), LABEL, ("jump", 4, 2, 5), ("fill", 4), LABEL)
CALM = (("jump", 1, 2, 6), LABEL, ("jump", 4, 2, 6), ("fill", 4), LABEL)
THREE = (("jump", 4, 1, 4), ("jump", 4, 1, 2), ("fill", 2), ("jump", 5, 1, 4), LABEL, LABEL)
WIDE = (THREE, (3, 2, 0, 0, 0, 1, 0), (8, 4, 4))
NONE = (NEAR, (0, 0, 0, 1, 0, 0), (0, 3))
FAR = (NEAR, (0, 0, 0, 1, 0, 0), (0, 4))
NO_JUMP = (((LABEL,), (7, 7), ()), (((("fill", 64),) * 24), (MOST,) * 25, ()), ((LABEL, ("fill", 2)), (1, 0, 0), ()))


def sample_programs():
    """Return programs of up to eight jumps."""
    return small_programs(11) + [
        program for items, jumps, many in ((7, 5, 25), (12, 6, 12), (16, 7, 8), (24, 8, 8))
        for growths in (range(1, 6), (64, 128)) for program in quick_programs(items, many, items, jumps, growths=growths)
    ]


def among_programs():
    """Return programs of 24 items and eight jumps with fills between all of them."""
    return [(skeleton, (length,) * 25, (reach,) * 8) for skeleton in (*AMONG.values(), *AMONG_STEADY.values())
            for length in (0, 1, MOST) for reach in REACHES]


class ServingTest(TellingCase):

    def test_all_choices(self):
        for program in sample_programs():
            self.assert_tells(serving, tuple(sorted(serving_in(program))), program=program)

    def test_eight_jumps(self):
        jumps = tuple(range(1, 9))
        skeleton = (LABEL,) + (("jump", 0, 2, 5),) * 8
        self.assert_tells(serving, (jumps,), program=(skeleton, (0,) * 10, (0,) * 8))
        self.assert_tells(serving, tuple(sorted(choices_of(skeleton))), program=(skeleton, (MOST,) * 10, (MOST * 9,) * 8))
        self.assertEqual(len(serving((skeleton, (0,) * 10, (MOST,) * 8))), 256)

    def test_without_jumps(self):
        for program in NO_JUMP:
            self.assert_tells(serving, ((),), program=program)

    def test_greater_reaches_serve_no_less(self):
        for skeleton, lengths, reaches in sample_programs()[::5]:
            more = tuple(reach + at % 2 for at, reach in enumerate(reaches))
            self.assertLessEqual(set(serving((skeleton, lengths, reaches))), set(serving((skeleton, lengths, more))))


class LeastTest(TellingCase):

    def assert_no_least(self, program):
        fields = self.refused(least_choice, NoLeast, program=program)
        self.assertEqual(list(fields), ["paper"])
        self.assertTrue(is_paper(program, fields["paper"]), program)
        self.assert_tells(least_holds, True, program=program, value=fields["paper"])

    def assert_least(self, program):
        """Look at least_choice, and tell whether there is one."""
        least = least_in(program)
        if least is None:
            self.assert_no_least(program)
            return False
        self.assert_tells(least_choice, least, program=program)
        return True

    def test_all_programs(self):
        without = [program for program in sample_programs() if not self.assert_least(program)]
        self.assertGreater(len(without), 10)
        self.assertGreater(len([program for program in without if len(jumps_in(program[0])) > 4]), 3)

    def test_fills_between_eight_jumps_in_time(self):
        begun = time.process_time()
        for program in among_programs():
            try:
                self.assertIn(least_choice(program), serving(program))
            except NoLeast as error:
                self.assertIs(least_holds(program, error.paper), True)
            fewest_bytes(program)
        # Looking at each two choices and at all within both takes longer for these.
        self.assertLess(time.process_time() - begun, 60)

    def test_what_two_have_in_common_need_not_serve(self):
        self.assert_tells(least_choice, (), program=WIDE)
        self.assert_tells(least_holds, False, program=WIDE, value=((0, 3), (1, 3)))
        found = 0
        for program in sample_programs():
            able = {frozenset(choice) for choice in serving_in(program)}
            apart = [(one, other) for one in able for other in able if one & other not in able]
            if apart and least_in(program) is not None:
                found += 1
                self.assert_least(program)
                for one, other in apart:
                    self.assertIs(least_holds(program, (tuple(sorted(one)), tuple(sorted(other)))), False)
        self.assertGreater(found, 0)

    def test_more_than_two_that_are_fewest(self):
        # Each of three jumps ahead makes the last one reach, so three choices have no other within them.
        skeleton = (*NEAR[:2], ("jump", 3, 2, 5), LABEL, ("jump", 5, 2, 5), LABEL, ("jump", 8, 2, 5), ("fill", 4), LABEL)
        for extra in range(8):
            self.assert_least((skeleton, (0, 0, 0, 0, 0, 0, 0, extra, 0, 0), (0, 0, 0, 3)))
        skeleton = (("jump", 6, 1, 2), ("jump", 6, 1, 2), ("jump", 6, 1, 2), ("jump", 6, 1, 9), ("fill", 8), LABEL, LABEL)
        for reaches in itertools.product((MOST,), (MOST, 6), (MOST, 4), (0, 1, 2, 3, 4)):
            self.assert_least((skeleton, (0,) * 8, reaches))

    def test_without_jumps(self):
        for program in NO_JUMP:
            self.assert_tells(least_choice, (), program=program)
            self.assert_tells(least_holds, False, program=program, value=((), ()))

    def test_steady_programs(self):
        found = 0
        for program in sample_programs():
            if triples_in(program[0]):
                continue
            least = least_choice(program)
            self.assertEqual(least, least_in(program))
            self.assertEqual(growing_ends(program), (least,))
            for order in itertools.islice(itertools.permutations(jumps_in(program[0])), 24):
                self.assertEqual(tuple(sorted(grown(program, order))), least)
            if not tied_in(program[0]):
                found += 1
                self.assertEqual(shrinking_ends(program), (least,))
        self.assertGreater(found, 60)


class LeastHoldsTest(TellingCase):

    def test_all_pairs_of_choices(self):
        for program in [NONE, FAR, WIDE] + small_programs(12)[::4]:
            choices = choices_of(program[0])
            for value in itertools.product(choices, repeat=2):
                self.assert_tells(least_holds, is_paper(program, value), program=program, value=value)

    def test_pairs_that_were_changed(self):
        papers = 0
        for program in [NONE, FAR, WIDE] + sample_programs()[::2]:
            able = serving_in(program)
            pairs = [(one, other) for one in able for other in able]
            right = [] if least_in(program) is not None else [pair for pair in pairs if is_paper(program, pair)]
            papers += right != []
            for pair in right[:2] + pairs[-1:]:
                for value in changed(pair):
                    self.assert_tells(least_holds, is_paper(program, value), program=program, value=value)
        self.assertGreater(papers, 5)

    def test_parts_of_other_kinds(self):
        for value in (((False,), (2,)), ((2,), (False,)), ([0], (2,)), ((0,), [2]), ((0,), (2,), ()), ((0,),), ((0, 0), (2,)),
                      ((0, 2), (0, 2)), ((0, 2), (0,)), ((2,), (2,)), ((0,), (0,)), ((0,), (1,)), ((0,), (2, 0)), (0, 2),
                      ((), ()), ((0,), ()), ((0,), None), ((0,), {2: 2}), ((0,), ((2,),)), ((0,), "2"), [(0,), (2,)]):
            self.assert_tells(least_holds, False, program=NONE, value=value)
        for value in (((0,), (2,)), ((2,), (0,))):
            self.assert_tells(least_holds, True, program=NONE, value=value)
            self.assert_tells(least_holds, False, program=FAR, value=value)

    def test_values_of_all_kinds(self):
        for program in (NONE, FAR, WIDE, *NO_JUMP):
            for value in of_all_kinds(((0,), (2,))) + (program, program[0], program[1], ((0,) * 1000, (2,) * 1000)):
                self.assert_tells(least_holds, False, program=program, value=value)


class FewestBytesTest(TellingCase):

    def assert_fewest(self, program):
        totals = {choice: bytes_in_all(*program[:2], choice) for choice in serving_in(program)}
        many, choice = self.told(fewest_bytes, program=program)
        self.assertIs(type(self.told(fewest_bytes, program=program)), tuple)
        self.assertEqual(many, min(totals.values()))
        self.assertEqual(totals[choice], many)
        return totals

    def test_all_programs(self):
        for program in sample_programs():
            totals = self.assert_fewest(program)
            least = least_in(program)
            if least is not None:
                self.assertEqual(totals[least], min(totals.values()))

    def test_two_jumps_with_fewer_bytes_than_one(self):
        # The jump 0 alone would do for both others, but by 101 bytes.
        skeleton = (("jump", 1, 2, 103), LABEL, ("jump", 4, 2, 3), ("fill", 4), LABEL, ("jump", 7, 2, 3), ("fill", 8), LABEL)
        program = (skeleton, (0, 0, 0, 1, 0, 0, 7, 0, 0), (MOST, 3, 13))
        self.assertEqual(serving(program), ((0,), (0, 2), (0, 2, 5), (0, 5), (2, 5)))
        self.assert_tells(fewest_bytes, (24, (2, 5)), program=program)

    def test_without_jumps(self):
        for program, many in zip(NO_JUMP, (14, None, 2)):
            if many is not None:
                self.assert_tells(fewest_bytes, (many, ()), program=program)
        self.assertEqual(fewest_bytes(NO_JUMP[1])[1], ())
        self.assert_fewest(NO_JUMP[1])

    def test_the_last_length_counts(self):
        skeleton, lengths, reaches = NONE
        before = fewest_bytes(NONE)
        self.assertEqual(fewest_bytes((skeleton, (*lengths[:-1], MOST), reaches)), (before[0] + MOST, before[1]))
