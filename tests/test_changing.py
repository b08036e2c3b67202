"""changes, change_lengths, hangs_on, sure_part: [A3], [F1] to [F5]."""

import itertools
import random
import time

from longernearer.changing import change_lengths, changes, hangs_on, sure_part
from longernearer.errors import Unfit
from longernearer.growing import growing_ends
from longernearer.laying import way_of
from longernearer.programs import lengths_error
from tests.looks import (
    AMONG, AMONG_STEADY, all_roundings, between_places, quick_programs, skeletons_of_all_sizes, small_programs, some_skeletons,
    triples_in, way_in,
)
from tests.samples import LABEL, MOST, choices_of, jumps_in
from tests.telling import HUGE, TellingCase, nested

TWINS = (("jump", 3, 2, 5), ("jump", 3, 2, 5), ("fill", 2), LABEL)
APART = (("jump", 1, 2, 9), LABEL, ("fill", 2), ("jump", 5, 2, 3), ("fill", 8), LABEL)
NO_CHANGES = (None, "", "0", "2", (), (0,), [], [0], {}, {0: 0}, True, False, HUGE, -HUGE, HUGE + 1, Unfit(), nested(0, 18))


def pairs_in(skeleton):
    """Return all pairs (other, jump) of unlike jumps."""
    return list(itertools.permutations(jumps_in(skeleton), 2))


def change_at(skeleton, lengths, other, jump, long=()):
    """Return by how much the way of jump is longer with other long, beside those in long."""
    return way_in(skeleton, lengths, (*long, other), jump) - way_in(skeleton, lengths, long, jump)


def small_skeletons(seed):
    """Return skeletons with up to three fills, up to 8, so that all their lengths can be gone through."""
    return [skeleton for items in range(2, 9)
            for skeleton in some_skeletons(seed + items, 40, items, fills=(2, 4, 8), growths=range(1, 14))
            if [item[0] for item in skeleton].count("fill") < 4]


def fills_ahead_and_in():
    """Return skeletons with a fill ahead of a way and one in it, behind jumps of all small growths."""
    return [(("jump", 1, 2, 2 + growth), LABEL, ("fill", ahead), ("jump", 5, 2, 3), ("fill", within), LABEL)
            for growth in range(1, 18) for ahead in (2, 4, 8) for within in (2, 4, 8)]


def unsure_in(skeleton):
    """Return the jumps that stand first in a triple, and those that hang on such, one behind another."""
    unsure = {triple[0] for triple in triples_in(skeleton)}
    more = {jump for other, jump in pairs_in(skeleton) if other in unsure and hangs_in(skeleton, other, jump)}
    while not more <= unsure:
        unsure |= more
        more = {jump for other, jump in pairs_in(skeleton) if other in unsure and hangs_in(skeleton, other, jump)}
    return unsure


def hangs_in(skeleton, other, jump):
    """Tell whether other stands in the way of jump, or last in a triple of it."""
    return other in between_places(skeleton, jump)[0] or (jump, other) in [found[::2] for found in triples_in(skeleton)]


class ChangesTest(TellingCase):

    def test_all_small_lengths_of_small_skeletons(self):
        many, three = 0, 0
        for skeleton in small_skeletons(1) + fills_ahead_and_in():
            roundings = all_roundings(skeleton)
            for other, jump in pairs_in(skeleton):
                seen = {change_at(skeleton, lengths, other, jump) for lengths in roundings}
                self.assert_tells(changes, tuple(sorted(seen)), skeleton=skeleton, other=other, jump=jump)
                many += len(seen) > 1
                three += len(seen) > 2
        self.assertGreater(many, 40)
        self.assertGreater(three, 5)

    def test_no_other_lengths_change_by_more(self):
        source = random.Random(2)
        for skeleton in small_skeletons(3)[::3]:
            for other, jump in pairs_in(skeleton):
                told = changes(skeleton, other, jump)
                for _ in range(20):
                    lengths = tuple(source.choice((0, 1, 2, 5, 63, 64, MOST)) for _ in range(len(skeleton) + 1))
                    self.assertIn(change_at(skeleton, lengths, other, jump), told)

    def test_by_other_jumps_that_are_long(self):
        # The same changes come, whatever else is long, and no others.
        more = 0
        for skeleton in small_skeletons(4)[::2]:
            for other, jump in pairs_in(skeleton):
                for long in choices_of(skeleton)[1:6]:
                    if other not in long and jump not in long:
                        more += 1
                        seen = {change_at(skeleton, lengths, other, jump, long) for lengths in all_roundings(skeleton)}
                        self.assertEqual(tuple(sorted(seen)), changes(skeleton, other, jump))
        self.assertGreater(more, 40)

    def test_signs(self):
        seen = {"in": 0, "triple": 0, "ahead": 0, "neither": 0}
        for skeleton in (*skeletons_of_all_sizes(7, 3), *AMONG.values(), *AMONG_STEADY.values()):
            found = [triple[::2] for triple in triples_in(skeleton)]
            for other, jump in pairs_in(skeleton):
                told = self.told(changes, skeleton=skeleton, other=other, jump=jump)
                self.assertEqual(told, tuple(sorted(set(told))))
                between, ahead = between_places(skeleton, jump)
                if other in between:
                    kind = "in"
                    self.assertTrue(told[0] >= 0 < told[-1])
                elif (jump, other) in found:
                    kind = "triple"
                    self.assertIn(other, ahead)
                    self.assertTrue(told[0] < 0 < told[-1])
                else:
                    kind = "ahead" if other in ahead else "neither"
                    self.assertEqual(told, (0,))
                seen[kind] += 1
        self.assertGreater(min(seen.values()), 100)

    def test_fills_one_behind_another(self):
        for growth, expected in ((1, (0, 64)), (63, (0, 64)), (64, (64,)), (65, (64, 128)), (996, (960, 1024)), (128, (128,))):
            fills = (("fill", 2), ("fill", 4), ("fill", 8), ("fill", 16), ("fill", 32), ("fill", 64), ("fill", 2))
            within = (("jump", 9, 1, 2), ("jump", 9, 1, 1 + growth)) + fills + (LABEL,)
            self.assert_tells(changes, expected, skeleton=within, other=1, jump=0)
            ahead = (("jump", 1, 1, 1 + growth), LABEL) + fills + (("jump", 10, 1, 2), LABEL)
            self.assert_tells(changes, (0,), skeleton=ahead, other=0, jump=9)
            straight = (("jump", 1, 1, 1 + growth), LABEL, ("jump", 10, 1, 2)) + fills + (LABEL,)
            self.assert_tells(changes, tuple(at - growth for at in expected), skeleton=straight, other=0, jump=2)
            back = (("jump", 1, 1, 1 + growth), LABEL) + fills + (("jump", 1, 1, 2),)
            self.assert_tells(changes, tuple(at - growth for at in expected), skeleton=back, other=0, jump=9)


class ChangeLengthsTest(TellingCase):

    def assert_lengths(self, skeleton, other, jump):
        for value in changes(skeleton, other, jump):
            lengths = self.told(change_lengths, skeleton=skeleton, other=other, jump=jump, value=value)
            self.assertIsNone(lengths_error(skeleton, lengths))
            self.assertLess(max(lengths), 64)
            self.assertEqual(change_at(skeleton, lengths, other, jump), value)
            self.assertEqual(way_of(skeleton, lengths, (other,), jump) - way_of(skeleton, lengths, (), jump), value)

    def test_each_change(self):
        for skeleton in small_skeletons(5)[::2] + skeletons_of_all_sizes(6, 2):
            for other, jump in pairs_in(skeleton):
                self.assert_lengths(skeleton, other, jump)

    def test_eight_jumps_and_fills_between_all(self):
        begun = time.process_time()
        for skeleton in (*AMONG.values(), *AMONG_STEADY.values()):
            for other, jump in pairs_in(skeleton):
                self.assert_lengths(skeleton, other, jump)
        self.assertLess(time.process_time() - begun, 20)

    def test_what_is_no_change(self):
        for skeleton, other, jump in ((TWINS, 0, 1), (TWINS, 1, 0), (APART, 0, 3), (APART, 3, 0)):
            told = changes(skeleton, other, jump)
            beside = {step + by for step in told for by in (-2, -1, 1, 2)} | {-999, 999, 64, -64, 10 ** 9}
            for value in NO_CHANGES + tuple(sorted(beside - set(told))):
                self.assert_refuses(change_lengths, Unfit, {}, skeleton=skeleton, other=other, jump=jump, value=value)

    def test_bools_are_no_changes(self):
        self.assertEqual(changes(TWINS, 0, 1), (-1, 1))
        self.assert_refuses(change_lengths, Unfit, {}, skeleton=TWINS, other=0, jump=1, value=True)
        self.assertEqual(changes(APART, 3, 0), (0,))
        self.assert_refuses(change_lengths, Unfit, {}, skeleton=APART, other=3, jump=0, value=False)


class HangsOnTest(TellingCase):

    def test_small_skeletons(self):
        for skeleton in small_skeletons(8)[::2]:
            for jump in jumps_in(skeleton):
                expected = tuple(other for other in jumps_in(skeleton) if other != jump and
                                 any(change_at(skeleton, lengths, other, jump) for lengths in all_roundings(skeleton)))
                self.assert_tells(hangs_on, expected, skeleton=skeleton, jump=jump)

    def test_in_the_way_or_last_in_a_triple(self):
        for skeleton in (*skeletons_of_all_sizes(9, 3), *AMONG.values(), *AMONG_STEADY.values()):
            for jump in jumps_in(skeleton):
                expected = tuple(other for other in jumps_in(skeleton) if other != jump and hangs_in(skeleton, other, jump))
                self.assert_tells(hangs_on, expected, skeleton=skeleton, jump=jump)

    def test_steady_is_what_hangs_on_the_jumps_in_the_way_alone(self):
        for skeleton in skeletons_of_all_sizes(10, 2):
            alone = all(set(hangs_on(skeleton, jump)) <= set(between_places(skeleton, jump)[0]) for jump in jumps_in(skeleton))
            self.assertEqual(alone, triples_in(skeleton) == ())


class SurePartTest(TellingCase):

    def test_skeletons_of_all_sizes(self):
        some = 0
        for skeleton in (*skeletons_of_all_sizes(11, 4), *AMONG.values(), *AMONG_STEADY.values()):
            unsure = unsure_in(skeleton)
            expected = tuple(jump for jump in jumps_in(skeleton) if jump not in unsure)
            some += 0 < len(expected) < len(jumps_in(skeleton))
            self.assert_tells(sure_part, expected, skeleton=skeleton)
            if not triples_in(skeleton):
                self.assertEqual(expected, jumps_in(skeleton))
        self.assertGreater(some, 40)

    def test_chains(self):
        # Jumps that go over the next one, so each hangs on the next one; the last one may have a fill in its way.
        places = [("jump", 4, 1, 65)]
        for at in range(6, 17, 2):
            places += [("jump", at, 1, 65), LABEL]
        for last, unsure in ((LABEL, False), (("fill", 2), True)):
            skeleton = (("jump", 1, 1, 2), LABEL, *places, last, LABEL)
            self.assertEqual(hangs_on(skeleton, 2), (3,))
            self.assertEqual(triples_in(skeleton), ((13, 15, 0),) if unsure else ())
            self.assert_tells(sure_part, (0,) if unsure else jumps_in(skeleton), skeleton=skeleton)

    def test_sure_jumps_are_long_in_all_ends_or_in_none(self):
        unsure = 0
        for program in small_programs(12) + quick_programs(13, 15, 14, 6, growths=range(1, 5)) + quick_programs(14, 6, 24, 8):
            sure = sure_part(program[0])
            ends = growing_ends(program)
            for jump in sure:
                self.assertEqual(len({jump in end for end in ends}), 1)
            unsure += len(ends) > 1
        self.assertGreater(unsure, 10)
