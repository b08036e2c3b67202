"""turning: [A3], [H1] to [H3]."""

import random
import time

from longernearer.choosing import least_choice
from longernearer.errors import Loose
from longernearer.lengthening import turning
from tests.looks import (
    AMONG, AMONG_STEADY, between_places, least_in, quick_programs, skeletons_of_all_sizes, small_programs, stuck_in, triples_in,
)
from tests.samples import LABEL, MOST, jumps_in
from tests.telling import TellingCase

SOLO = (("jump", 2, 2, 5), ("fill", 4), LABEL)
PAIR = (("jump", 3, 2, 4), ("jump", 3, 2, 6), ("fill", 2), LABEL)
SWAY = (("jump", 3, 2, 5), ("jump", 3, 2, 4), ("fill", 4), LABEL)
STEADY = {"growths": (64, 128), "fills": (2, 4, 8, 64)}


def step_of(skeleton):
    return max([1] + [item[1] for item in skeleton if item[0] == "fill"])


def with_more(program, place, more):
    skeleton, lengths, reaches = program
    return (skeleton, tuple(length + more * (at == place) for at, length in enumerate(lengths)), reaches)


def stands_in(skeleton, place, jump):
    """Tell whether the length at place stands in the way of jump, as [H1] tells it."""
    goal = skeleton[jump][1]
    return place in (range(jump + 1, goal + 1) if goal > jump else range(goal + 1, jump + 1))


def grown_in(program):
    """Return the end of growing, by a look of this test's own."""
    choice = ()
    while stuck_in(program, choice):
        choice = tuple(sorted(choice + stuck_in(program, choice)))
    return choice


def turnings_in(program, place, end_of):
    """Return the dict of the turnings of all jumps at place, gone through step by step; end_of tells least choices."""
    skeleton, _, reaches = program
    step, found = step_of(skeleton), {}
    # With this many steps each way in which the length stands is more than any reach.
    for number in range(max(reaches, default=0) // step + 2):
        for jump in end_of(with_more(program, place, number * step)):
            found.setdefault(jump, number)
    return {jump: found.get(jump) for jump in jumps_in(skeleton)}


def steady_programs():
    """Return programs of up to eight jumps with steady skeletons."""
    programs = small_programs(51) + small_programs(52) + [
        program for items, jumps, many in ((3, 2, 20), (6, 3, 25), (8, 4, 20), (12, 6, 8), (24, 8, 4))
        for program in quick_programs(items, many, items, jumps, **STEADY)
    ]
    return [program for program in programs if not triples_in(program[0])]


class TurningTest(TellingCase):

    def assert_turning(self, expected, program, place, jump):
        self.assert_tells(turning, expected, program=program, place=place, jump=jump)

    def assert_all(self, program, end_of):
        """Look at all places and jumps; return the list of what came."""
        seen = []
        for place in range(len(program[0]) + 1):
            for jump, expected in turnings_in(program, place, end_of).items():
                self.assert_turning(expected, program, place, jump)
                seen.append(expected)
        return seen

    def test_step_by_step(self):
        seen = []
        for program in steady_programs():
            end_of = least_in if len(jumps_in(program[0])) < 4 else grown_in
            seen += self.assert_all(program, end_of)
        for expected in (None, 0, 1, 2):
            self.assertGreater(seen.count(expected), 20)
        self.assertGreater(len([number for number in seen if number is not None and number > 5]), 20)

    def test_small_reaches_and_small_steps(self):
        seen = []
        for program in quick_programs(54, 60, 6, 3, growths=(2, 4, 6), fills=(2,)) + quick_programs(55, 30, 5, 3, fills=(2,)):
            if not triples_in(program[0]):
                reaches = tuple(reach + 9 * at for at, reach in enumerate(program[2]))
                seen += self.assert_all((*program[:2], reaches), least_in)
        self.assertGreater(len([number for number in seen if number is not None and number > 3]), 50)

    def test_greatest_reaches(self):
        for place, length, number in ((1, 0, 250000000), (2, 0, 250000000), (1, MOST, 0), (2, MOST - 4, 1), (0, 0, None), (3, 0, None)):
            lengths = tuple(length if at == place else 0 for at in range(4))
            self.assert_turning(number, (SOLO, lengths, (MOST,)), place, 0)
        bare = (("jump", 1, 1, 2), LABEL)
        self.assert_turning(MOST + 1, (bare, (0, 0, 0), (MOST,)), 1, 0)
        self.assert_turning(1, (bare, (0, MOST, 0), (MOST,)), 1, 0)
        self.assert_turning(None, (bare, (0, MOST, 0), (MOST,)), 2, 0)
        widest = (("jump", 2, 1, 2), ("fill", 64), LABEL)
        self.assert_turning(MOST // 64, (widest, (0, 0, 0, 0), (MOST,)), 1, 0)
        self.assert_turning(MOST // 64 + 1, (widest, (63, 0, 0, 0), (MOST,)), 2, 0)

    def test_one_step_fewer_does_not_do(self):
        source = random.Random(56)
        far = 0
        for program in steady_programs():
            reaches = tuple(source.choice((0, 7, 10 ** 6, MOST - 1, MOST)) for _ in program[2])
            program = (*program[:2], reaches)
            for place in range(len(program[0]) + 1):
                for jump in jumps_in(program[0]):
                    number = turning(program, place, jump)
                    step = step_of(program[0])
                    if number is None:
                        self.assertNotIn(jump, grown_in(with_more(program, place, 10 ** 12 * step)))
                        continue
                    far += number > 10 ** 6
                    self.assertIn(jump, grown_in(with_more(program, place, number * step)))
                    self.assertIn(jump, grown_in(with_more(program, place, (number + 1) * step)))
                    if number > 0:
                        self.assertNotIn(jump, grown_in(with_more(program, place, (number - 1) * step)))
        self.assertGreater(far, 100)

    def test_nought_exactly_in_the_least_choice(self):
        for program in steady_programs():
            least = least_choice(program)
            for place in range(len(program[0]) + 1):
                for jump in jumps_in(program[0]):
                    self.assertEqual(turning(program, place, jump) == 0, jump in least)

    def test_lengths_that_were_made_greater(self):
        for program in steady_programs()[::2]:
            for place in range(len(program[0]) + 1):
                for jump in jumps_in(program[0]):
                    number = turning(program, place, jump)
                    for steps in (1, 2, 7):
                        more = with_more(program, place, steps * step_of(program[0]))
                        expected = None if number is None else max(0, number - steps)
                        self.assertEqual(turning(more, place, jump), expected)

    def test_places_that_stand_in_no_way_that_matters(self):
        for program in steady_programs()[::3]:
            skeleton = program[0]
            for jump in jumps_in(skeleton):
                hanging, seen = {jump}, set()
                while hanging != seen:
                    seen = set(hanging)
                    hanging |= {other for one in seen for other in between_places(skeleton, one)[0] if skeleton[other][0] == "jump"}
                for place in range(len(skeleton) + 1):
                    if not any(stands_in(skeleton, place, one) for one in hanging):
                        self.assertIn(turning(program, place, jump), (0, None))

    def test_without_fills_the_step_is_one(self):
        skeleton = (LABEL, ("jump", 0, 2, 3), ("jump", 0, 2, 900))
        for reach in (1, 2, 3, 10, 500):
            program = (skeleton, (0, 0, 0, 0), (reach, MOST))
            self.assert_turning(max(0, reach - 1), program, 1, 1)
            self.assert_turning(0 if reach == 1 else None, program, 2, 1)
            self.assert_turning(0 if reach == 1 else None, program, 0, 1)
            self.assert_turning(MOST - 4, program, 1, 2)
            self.assert_turning(MOST - 3 - (reach == 1), program, 2, 2)

    def test_the_step_is_the_greatest_fill(self):
        # The greatest fill stands behind all, or ahead of all.
        for fills in ((("fill", 2), ("fill", 64)), (("fill", 64), ("fill", 2))):
            skeleton = (fills[0], ("jump", 2, 1, 65), LABEL, fills[1])
            self.assert_turning(4, (skeleton, (0,) * 5, (200,)), 2, 1)
            self.assert_turning(3, (skeleton, (0,) * 5, (191,)), 2, 1)
            self.assert_turning(4, (skeleton, (0,) * 5, (192,)), 2, 1)

    def test_loose_skeletons(self):
        found = 0
        for skeleton in skeletons_of_all_sizes(57, 1):
            triples = triples_in(skeleton)
            if triples:
                found += 1
                program = (skeleton, (0,) * (len(skeleton) + 1), (3,) * len(jumps_in(skeleton)))
                for place in (0, len(skeleton) // 2, len(skeleton)):
                    fields = {"triple": triples[0]}
                    jump = jumps_in(skeleton)[0]
                    self.assert_refuses(turning, Loose, fields, program=program, place=place, jump=jump)
        self.assertGreater(found, 20)
        self.assert_refuses(turning, Loose, {"triple": (1, 2, 0)}, program=(SWAY, (0,) * 5, (0, 0)), place=4, jump=0)

    def test_eight_jumps_and_fills_between_all_in_time(self):
        begun = time.process_time()
        for skeleton in AMONG_STEADY.values():
            for reaches in ((MOST,) * 8, tuple(MOST - 10 ** 8 * at for at in range(8)), (0, MOST) * 4, tuple(range(0, 800, 100))):
                program = (skeleton, (0,) * 25, reaches)
                for place in range(25):
                    for jump in jumps_in(skeleton):
                        number = turning(program, place, jump)
                        if number is not None:
                            self.assertIn(jump, grown_in(with_more(program, place, number * step_of(skeleton))))
        self.assertLess(time.process_time() - begun, 60)
        self.assertNotEqual(triples_in(AMONG["far"]), ())

    def test_jumps_that_turn_one_behind_another(self):
        # Each jump goes over the next one, and the length at 16 stands in the last way alone.
        skeleton = [("jump", 2, 1, 101)]
        for goal in range(4, 17, 2):
            skeleton += [("jump", goal, 1, 101), LABEL]
        skeleton = (*skeleton, LABEL, LABEL)
        jumps = jumps_in(skeleton)
        self.assertEqual([stands_in(skeleton, 16, jump) for jump in jumps], [False] * 7 + [True])
        for reaches, expected in (
                ((50,) * 8, [51] * 8), ((200,) * 7 + (50,), [None] * 7 + [51]), ((50,) * 4 + (150,) + (50,) * 3, [None] * 5 + [51] * 3),
                ((50,) * 5 + (0,) + (50,) * 2, [0] * 6 + [51] * 2)):
            program = (skeleton, (0,) * 18, reaches)
            self.assertEqual([turning(program, 16, jump) for jump in jumps], expected)
            self.assert_all(program, grown_in)

    def test_ways_in_one_another(self):
        # The length at 9 stands in all ways; each jump that becomes long makes all those around it longer.
        skeleton = tuple(("jump", 16 - at, 1, 101) for at in range(8)) + (LABEL,) * 9
        for reaches in ((99,) * 8, (199,) * 8, tuple(range(800, 0, -100)), tuple(range(0, 80, 10))):
            self.assert_all((skeleton, (0,) * 18, reaches), grown_in)
        self.assert_all((PAIR, (0, 0, 0, 0, 0), (13, 6)), least_in)
