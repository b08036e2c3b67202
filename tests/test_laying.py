"""laid, total, in_way, ahead_of_way, way_of, serves, stuck: [A3], [B1] to [B5]."""

import itertools
import random

from longernearer.laying import ahead_of_way, in_way, laid, serves, stuck, total, way_of
from tests.samples import (
    FILL_SIZES, LABEL, MOST, bytes_in_way, bytewise, bytewise_stuck, bytewise_way, choices_of, jumps_in, some_program,
    some_programs, some_skeleton,
)
from tests.telling import TellingCase

SIDE = (("jump", 1, 2, 5), LABEL, ("jump", 4, 2, 3), ("fill", 4), LABEL)
LOOP = (LABEL, ("jump", 3, 2, 5), ("fill", 8), LABEL, ("jump", 0, 2, 5))
WIDE = (("jump", 23, 1, 999), LABEL, *[("fill", 64)] * 20, ("jump", 1, 998, 999), LABEL)


def sample_programs():
    """Return programs with small lengths and up to four jumps."""
    return [
        program for seed, (items, jumps) in enumerate(itertools.product((1, 2, 3, 4, 6, 9), range(5))) if jumps < items
        for program in some_programs(seed, 12, items, jumps)
    ]


class LaidTest(TellingCase):

    def assert_laid(self, spots, many, skeleton, lengths, choice):
        self.assert_tells(laid, spots, skeleton=skeleton, lengths=lengths, choice=choice)
        self.assert_tells(total, many, skeleton=skeleton, lengths=lengths, choice=choice)

    def test_one_item(self):
        self.assert_laid(((0, 0),), 0, (LABEL,), (0, 0), ())
        self.assert_laid(((5, 5),), 12, (LABEL,), (5, 7), ())
        self.assert_laid(((0, 0),), 0, (("fill", 8),), (0, 0), ())
        self.assert_laid(((1, 8),), 11, (("fill", 8),), (1, 3), ())

    def test_fills_at_a_multiple_and_beside_it(self):
        for size, times in itertools.product(FILL_SIZES, (1, 2, 5)):
            at = size * times
            # Each fill divides 10 ** 9.
            for begin, end in ((0, 0), (1, size), (at - 1, at), (at, at), (at + 1, at + size), (MOST - 1, MOST), (MOST, MOST)):
                self.assert_laid(((begin, end),), end + 7, (("fill", size),), (begin, 7), ())

    def test_jumps_short_and_long(self):
        skeleton = (LABEL, ("jump", 0, 2, 5), ("jump", 0, 1, 999))
        for choice, first, second in (((), 2, 1), ((1,), 5, 1), ((2,), 2, 999), ((1, 2), 5, 999)):
            spots = ((3, 3), (4, 4 + first), (4 + first, 4 + first + second))
            self.assert_laid(spots, 4 + first + second + 9, skeleton, (3, 1, 0, 9), choice)

    def test_each_length_stands_ahead_of_its_item(self):
        for place in range(4):
            lengths = tuple(10 if at == place else 0 for at in range(4))
            spots = tuple((10, 10) if at >= place else (0, 0) for at in range(3))
            self.assert_laid(spots, 10, (LABEL,) * 3, lengths, ())

    def test_byte_by_byte(self):
        for skeleton, lengths, _ in sample_programs():
            for choice in choices_of(skeleton):
                room, spots = bytewise(skeleton, lengths, choice)
                self.assert_laid(spots, len(room), skeleton, lengths, choice)

    def test_greatest_lengths(self):
        skeleton = (("jump", 2, 1, 3), ("fill", 64), LABEL)
        # 10 ** 9 is a multiple of 64 and 2 * 10 ** 9 + 1 is 63 ahead of the next one.
        self.assert_laid(((MOST, MOST + 1), (2 * MOST + 1, 2 * MOST + 64), (3 * MOST + 64, 3 * MOST + 64)),
                         4 * MOST + 64, skeleton, (MOST,) * 4, ())
        self.assert_laid(((MOST, MOST + 3), (2 * MOST + 3, 2 * MOST + 64), (3 * MOST + 64, 3 * MOST + 64)),
                         4 * MOST + 64, skeleton, (MOST,) * 4, (0,))
        self.assert_laid(tuple((MOST * place, MOST * place) for place in range(1, 25)), 25 * MOST,
                         (LABEL,) * 24, (MOST,) * 25, ())

    def test_other_bytes_push_all_behind_on(self):
        for skeleton, lengths, _ in sample_programs()[::5]:
            for choice in choices_of(skeleton):
                spots = laid(skeleton, (lengths[0] + 64 * 10 ** 6,) + lengths[1:], choice)
                before = laid(skeleton, lengths, choice)
                self.assertEqual(spots, tuple((begin + 64 * 10 ** 6, end + 64 * 10 ** 6) for begin, end in before))


class PlacesTest(TellingCase):
    """in_way and ahead_of_way."""

    def assert_places(self, between, ahead, skeleton, jump):
        self.assert_tells(in_way, between, skeleton=skeleton, jump=jump)
        self.assert_tells(ahead_of_way, ahead, skeleton=skeleton, jump=jump)

    def test_jumps_beside_their_labels(self):
        self.assert_places((), (), (("jump", 1, 1, 2), LABEL), 0)
        self.assert_places((), (), (LABEL, ("jump", 0, 1, 2)), 1)
        self.assert_places((), (0,), (LABEL, LABEL, ("jump", 1, 1, 2), LABEL), 2)
        self.assert_places((), (0, 1), (LABEL, LABEL, ("jump", 3, 1, 2), LABEL), 2)

    def test_jumps_far_from_their_labels(self):
        self.assert_places(tuple(range(1, 23)), (), WIDE, 0)
        self.assert_places(tuple(range(2, 22)), (0,), WIDE, 22)

    def test_forward_and_back(self):
        self.assert_places((3,), (0, 1), SIDE, 2)
        self.assert_places((), (), SIDE, 0)
        self.assert_places((2,), (0,), LOOP, 1)
        self.assert_places((1, 2, 3), (), LOOP, 4)

    def test_jump_and_label_are_left_out(self):
        for skeleton, _, _ in sample_programs():
            for jump in jumps_in(skeleton):
                goal = skeleton[jump][1]
                ends = sorted((jump, goal))
                between = tuple(place for place in range(len(skeleton)) if ends[0] < place < ends[1])
                ahead = tuple(place for place in range(len(skeleton)) if place < jump and place < goal)
                self.assert_places(between, ahead, skeleton, jump)


class WayOfTest(TellingCase):

    def assert_way(self, expected, skeleton, lengths, choice, jump):
        self.assert_tells(way_of, expected, skeleton=skeleton, lengths=lengths, choice=choice, jump=jump)

    def test_byte_by_byte(self):
        for skeleton, lengths, _ in sample_programs():
            for choice in choices_of(skeleton):
                for jump in jumps_in(skeleton):
                    way = bytewise_way(skeleton, lengths, choice, jump)
                    self.assert_way(way, skeleton, lengths, choice, jump)

    def test_the_jump_itself_is_short(self):
        for skeleton, lengths, _ in sample_programs():
            for choice in choices_of(skeleton):
                for jump in jumps_in(skeleton):
                    with_it = tuple(sorted({*choice, jump}))
                    without = tuple(other for other in choice if other != jump)
                    self.assertEqual(way_of(skeleton, lengths, with_it, jump), way_of(skeleton, lengths, without, jump))

    def test_beside_the_label(self):
        for choice in ((), (0,)):
            self.assert_way(0, (("jump", 1, 3, 9), LABEL), (5, 0, 8), choice, 0)
            self.assert_way(4, (("jump", 1, 3, 9), LABEL), (5, 4, 8), choice, 0)
        for choice in ((), (1,)):
            self.assert_way(3, (LABEL, ("jump", 0, 3, 9)), (5, 0, 8), choice, 1)
            self.assert_way(7, (LABEL, ("jump", 0, 3, 9)), (5, 4, 8), choice, 1)

    def test_greatest_lengths(self):
        self.assert_way(MOST, (("jump", 1, 3, 9), LABEL), (MOST,) * 3, (), 0)
        self.assert_way(MOST + 3, (LABEL, ("jump", 0, 3, 9)), (MOST,) * 3, (1,), 1)
        # 10 ** 9 is a multiple of 64, so only the first fill takes bytes: 63 behind 1 byte, 25 behind 999.
        self.assert_way(23 * MOST + 63 + 998, WIDE, (MOST,) * 25, (), 0)
        self.assert_way(23 * MOST + 63 + 999, WIDE, (MOST,) * 25, (22,), 0)
        self.assert_way(21 * MOST + 63 + 998, WIDE, (MOST,) * 25, (), 22)
        self.assert_way(21 * MOST + 25 + 998, WIDE, (MOST,) * 25, (0,), 22)

    def test_a_jump_ahead_makes_it_shorter_or_longer(self):
        for between, ways in enumerate(((3, 0), (2, 3), (1, 2), (0, 1))):
            for choice, way in zip(((), (0,)), ways):
                self.assert_way(way, SIDE, (0, 1, between, 0, 0, 0), choice, 2)


class StuckTest(TellingCase):

    def assert_stuck(self, expected, program, choice):
        self.assert_tells(stuck, expected, program=program, choice=choice)
        self.assert_tells(serves, expected == (), program=program, choice=choice)

    def test_byte_by_byte(self):
        found = []
        for program in sample_programs():
            for choice in choices_of(program[0]):
                expected = bytewise_stuck(program, choice)
                self.assert_stuck(expected, program, choice)
                found.append(len(expected))
        self.assertLessEqual({0, 1, 2, 3}, set(found))

    def test_reaches_just_the_way_and_one_less(self):
        for skeleton, lengths, _ in sample_programs()[::3]:
            jumps = jumps_in(skeleton)
            for choice in choices_of(skeleton):
                ways = [bytewise_way(skeleton, lengths, choice, jump) for jump in jumps]
                self.assert_stuck((), (skeleton, lengths, tuple(ways)), choice)
                for at, jump in enumerate(jumps):
                    if ways[at] > 0:
                        reaches = tuple(way - (other == at) for other, way in enumerate(ways))
                        expected = () if jump in choice else (jump,)
                        self.assert_stuck(expected, (skeleton, lengths, reaches), choice)

    def test_the_choice_of_all_jumps_serves(self):
        for skeleton, lengths, reaches in sample_programs():
            self.assert_stuck((), (skeleton, lengths, reaches), jumps_in(skeleton))
            self.assert_stuck((), (skeleton, (MOST,) * len(lengths), (0,) * len(reaches)), jumps_in(skeleton))

    def test_greater_reaches_serve_too(self):
        for skeleton, lengths, reaches in sample_programs():
            for choice in choices_of(skeleton):
                if serves((skeleton, lengths, reaches), choice):
                    for at in range(len(reaches)):
                        greater = reaches[:at] + (reaches[at] + 1 + at * 100,) + reaches[at + 1:]
                        self.assertIs(serves((skeleton, lengths, greater), choice), True)

    def test_without_jumps(self):
        self.assert_stuck((), ((LABEL,), (0, 0), ()), ())
        self.assert_stuck((), ((("fill", 2),) * 24, (MOST,) * 25, ()), ())

    def test_greatest_lengths_and_reaches(self):
        one = (("jump", 1, 1, 2), LABEL)
        self.assert_stuck((), (one, (MOST,) * 3, (MOST,)), ())
        self.assert_stuck((0,), (one, (MOST,) * 3, (MOST - 1,)), ())
        self.assert_stuck((1,), ((LABEL, ("jump", 0, 1, 2)), (MOST,) * 3, (MOST,)), ())
        self.assert_stuck((), ((LABEL, ("jump", 0, 1, 2)), (MOST,) * 3, (MOST,)), (1,))
        self.assert_stuck((0, 22), (WIDE, (MOST,) * 25, (MOST, MOST)), ())

    def test_eight_jumps(self):
        jumps = tuple(range(1, 9))
        skeleton = (LABEL,) + tuple(("jump", 0, 2, 5) for _ in jumps)
        reaches = tuple(2 * jump for jump in jumps)
        self.assert_stuck((), (skeleton, (0,) * 10, reaches), ())
        self.assert_stuck(jumps[1:], (skeleton, (0,) * 10, reaches), (1,))
        self.assert_stuck(jumps[4:], (skeleton, (0,) * 10, reaches), (1, 2, 3, 4))
        self.assert_stuck((8,), (skeleton, (0,) * 10, (99,) * 7 + (15,)), ())
        self.assert_stuck(jumps, (skeleton, (0,) * 10, (0,) * 8), ())


class WhatHoldsTest(TellingCase):
    """[B5], where it tells of lengths and shifts."""

    def test_shifts_at_a_fill(self):
        for size, shift, begin in itertools.product(FILL_SIZES, (1, 2, 3, 4, 6, 8, 12, 31, 64, 65, 128, 200), range(130)):
            skeleton = (("jump", 2, 1, 1 + shift), ("fill", size), LABEL)
            lengths = (0, begin, 0, 0)
            further = laid(skeleton, lengths, (0,))[2][0] - laid(skeleton, lengths, ())[2][0]
            down = shift // size * size
            if shift % size == 0:
                self.assertEqual(further, shift)
            elif (begin + 1) % size == 1:
                self.assertEqual(further, down)
            elif (begin + 1) % size == 0:
                self.assertEqual(further, down + size)
            else:
                self.assertIn(further, (down, down + size))

    def test_fills_end_at_multiples(self):
        for skeleton, lengths, _ in sample_programs():
            for choice in choices_of(skeleton):
                for item, (begin, end) in zip(skeleton, laid(skeleton, lengths, choice)):
                    if item[0] == "fill":
                        self.assertEqual(end % item[1], 0)
                        self.assertIn(end - begin, range(item[1]))

    def test_one_byte_more(self):
        source = random.Random(5)
        shorter = 0
        for _ in range(150):
            skeleton, lengths, _ = some_program(source, some_skeleton(source, 8, 3))
            choice = source.choice(choices_of(skeleton))
            for jump, place in itertools.product(jumps_in(skeleton), range(9)):
                more = lengths[:place] + (lengths[place] + 1,) + lengths[place + 1:]
                longer = way_of(skeleton, more, choice, jump) - way_of(skeleton, lengths, choice, jump)
                counted = bytes_in_way(skeleton, jump)
                behind = [skeleton[at][1] for at in in_way(skeleton, jump) if at >= place and skeleton[at][0] == "fill"]
                if ("length", place) in counted:
                    self.assertIn(longer, range(max(behind) + 1) if behind else (1,))
                shorter += ("length", place) not in counted and longer < 0
        self.assertGreater(shorter, 0)
