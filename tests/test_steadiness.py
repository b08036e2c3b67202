"""triples, steady_error, loose_program, loose_holds: [A3], [D1] to [D3], [D5], [D6]."""

import itertools
import time

from longernearer.errors import Steady
from longernearer.laying import way_of
from longernearer.programs import program_error
from longernearer.steadiness import loose_holds, loose_program, steady_error, triples
from tests.changed import changed, of_all_kinds
from tests.looks import (
    AMONG, AMONG_STEADY, all_roundings, between_places, is_choice, is_paper, is_program_of, least_in, quick_programs,
    serving_in, skeletons_of_all_sizes, small_programs, some_skeletons, triples_in, ways_in,
)
from tests.samples import FILL_SIZES, LABEL, choices_of, jumps_in
from tests.telling import TellingCase

SWAY = (("jump", 3, 2, 5), ("jump", 3, 2, 4), ("fill", 4), LABEL)
CALM = (("jump", 3, 2, 6),) + SWAY[1:]
SHOWN = (SWAY, (0, 0, 1, 0, 0), (99, 3))


def is_loose_triple(skeleton, value):
    """Tell whether value is a program with skeleton and two choices that serve, while none within both does."""
    return type(value) is tuple and len(value) == 3 and is_program_of(skeleton, value[0]) and is_paper(value[0], value[1:])


def nearer_somewhere(skeleton):
    """Tell whether a jump makes another one's way shorter, at any lengths, whatever else is long."""
    for lengths in all_roundings(skeleton):
        ways = {choice: ways_in(skeleton, lengths, choice) for choice in choices_of(skeleton)}
        for choice, jump in itertools.product(ways, jumps_in(skeleton)):
            more = ways[tuple(sorted({*choice, jump}))]
            if [other for other in more if more[other] < ways[choice][other]]:
                return True
    return False


class TriplesTest(TellingCase):

    def assert_triples(self, expected, skeleton):
        self.assert_tells(triples, expected, skeleton=skeleton)
        self.assert_tells(steady_error, expected[0] if expected else None, skeleton=skeleton)

    def test_skeletons_of_all_sizes(self):
        steady, many = 0, 0
        for skeleton in skeletons_of_all_sizes(1, 8):
            expected = triples_in(skeleton)
            self.assert_triples(expected, skeleton)
            steady += expected == ()
            many += len(expected) > 1
        self.assertGreater(steady, 200)
        self.assertGreater(many, 150)

    def test_eight_jumps_and_fills_between_all(self):
        for skeleton in (*AMONG.values(), *AMONG_STEADY.values()):
            self.assert_triples(triples_in(skeleton), skeleton)

    def test_growths_that_the_fill_divides(self):
        for size, growth in itertools.product(FILL_SIZES, range(1, 150)):
            skeleton = (("jump", 1, 3, 3 + growth), LABEL, ("jump", 4, 2, 900), ("fill", size), LABEL)
            self.assert_triples(() if growth % size == 0 else ((2, 3, 0),), skeleton)

    def test_fills_that_hide_others(self):
        # The hiding fill stands ahead of the way, and in it.
        for hiding, size in itertools.product(FILL_SIZES, repeat=2):
            hidden = hiding >= size
            ahead = (("jump", 1, 1, 2), LABEL, ("fill", hiding), ("jump", 5, 2, 4), ("fill", size), LABEL)
            self.assert_triples(() if hidden else ((3, 4, 0),), ahead)
            within = (("jump", 1, 1, 2), LABEL, ("jump", 5, 2, 4), ("fill", hiding), ("fill", size), LABEL)
            self.assert_triples(((2, 3, 0),) if hidden else ((2, 3, 0), (2, 4, 0)), within)
            before = (("fill", hiding), ("jump", 2, 1, 2), LABEL, ("jump", 5, 2, 4), ("fill", size), LABEL)
            self.assert_triples(((3, 4, 1),), before)
            behind = (("jump", 1, 1, 2), LABEL, ("jump", 5, 2, 4), ("fill", size), LABEL, LABEL, ("fill", hiding))
            self.assert_triples(((2, 3, 0),), behind)

    def test_forward_and_back(self):
        # The second jump stands where the first one's way is ahead of it, in it, around it, behind it.
        fill = ("fill", 2)
        for skeleton, expected in (
                ((("jump", 1, 1, 2), LABEL, ("jump", 4, 1, 3), fill, LABEL), ((2, 3, 0),)),
                ((("jump", 1, 1, 2), LABEL, fill, ("jump", 1, 1, 3)), ((3, 2, 0),)),
                ((LABEL, ("jump", 0, 1, 2), fill, ("jump", 0, 1, 3)), ()),
                ((LABEL, ("jump", 3, 1, 2), fill, LABEL, ("jump", 0, 1, 3)), ()),
                ((LABEL, fill, ("jump", 0, 1, 2), ("jump", 6, 1, 2), ("jump", 0, 1, 3), fill, LABEL), ((3, 5, 2),)),
                ((("jump", 3, 1, 2), ("jump", 3, 1, 2), fill, LABEL), ((1, 2, 0),)),
                ((("jump", 1, 1, 2), LABEL, ("jump", 1, 1, 2)), ()),
                ((fill, LABEL, ("jump", 1, 1, 2), LABEL, ("jump", 3, 1, 2)), ()),
                ((("jump", 2, 1, 2), fill, LABEL, ("jump", 2, 1, 2)), ()),
                ((("jump", 4, 1, 2), ("jump", 3, 1, 2), fill, LABEL, LABEL), ((1, 2, 0),)),
                ((("jump", 5, 1, 2), ("jump", 3, 1, 2), ("jump", 5, 1, 3), LABEL, fill, LABEL), ((2, 4, 0), (2, 4, 1)))):
            self.assertEqual(triples_in(skeleton), expected)
            self.assert_triples(expected, skeleton)

    def test_many_triples_ascend(self):
        skeleton = tuple(("jump", 23, 1, 2) for _ in range(8)) + tuple(("fill", 2 << at) for at in range(6)) + (LABEL,) * 10
        expected = tuple((jump, fill, other) for jump in range(8) for fill in range(8, 14) for other in range(jump))
        self.assert_triples(expected, skeleton)
        self.assertEqual(len(expected), 168)

    def test_without_fills_or_with_one_jump(self):
        for skeleton in ((LABEL,), (("fill", 2),), (LABEL, ("fill", 64), ("jump", 0, 1, 2)), (LABEL,) + (("jump", 0, 1, 2),) * 8,
                         (("fill", 4),) * 24, (("jump", 23, 1, 999),) + (("fill", 64),) * 22 + (LABEL,)):
            self.assert_triples((), skeleton)

    def test_steady_is_what_never_makes_a_way_shorter(self):
        loose = 0
        for items in range(2, 9):
            for skeleton in some_skeletons(items, 120, items, fills=(2, 4, 8), growths=(1, 2, 3, 4, 6, 8, 12)):
                fills = [item[1] for item in skeleton if item[0] == "fill"]
                if len(jumps_in(skeleton)) < 4 and len(fills) < 4:
                    loose += triples(skeleton) != ()
                    self.assertEqual(nearer_somewhere(skeleton), triples(skeleton) != (), skeleton)
        self.assertGreater(loose, 10)


class LooseProgramTest(TellingCase):

    def assert_shown(self, skeleton):
        """Look at loose_program, and tell whether there is one."""
        if not triples_in(skeleton):
            self.assert_refuses(loose_program, Steady, {}, skeleton=skeleton)
            return False
        value = self.told(loose_program, skeleton=skeleton)
        self.assertIs(type(value), tuple)
        program, one, other = value
        self.assertIsNone(program_error(program))
        self.assertEqual(program[0], skeleton)
        self.assertTrue(is_choice(skeleton, one) and is_choice(skeleton, other))
        able = serving_in(program)
        self.assertTrue(one in able and other in able)
        self.assertEqual([choice for choice in able if set(choice) <= set(one) & set(other)], [])
        self.assertIsNone(least_in(program))
        self.assert_tells(loose_holds, True, skeleton=skeleton, value=value)
        self.assert_tells(loose_holds, True, skeleton=skeleton, value=(program, other, one))
        return True

    def test_skeletons_of_all_sizes(self):
        shown = [self.assert_shown(skeleton) for skeleton in skeletons_of_all_sizes(2, 5)]
        self.assertGreater(shown.count(True), 100)
        self.assertGreater(shown.count(False), 100)

    def test_eight_jumps_and_fills_between_all(self):
        begun = time.process_time()
        for skeleton in (*AMONG.values(), *AMONG_STEADY.values()):
            self.assert_shown(skeleton)
        self.assertLess(time.process_time() - begun, 20)

    def test_lesser_fills_ahead_of_the_way_and_in_it(self):
        for sizes in itertools.product((2, 4, 8), repeat=3):
            ahead, within = [("fill", size) for size in sizes[:2]], ("fill", sizes[2])
            for growth in (1, 3, 5, 6, 7, 9, 12, 994):
                jump = ("jump", 1, 4, 4 + growth)
                self.assert_shown((jump, LABEL, *ahead, ("jump", 7, 2, 3), within, ("fill", 16), LABEL))
                self.assert_shown((jump, LABEL, *ahead, LABEL, within, ("fill", 32), ("jump", 4, 2, 3)))

    def test_programs_of_steady_skeletons_have_none(self):
        for program in small_programs(21) + quick_programs(22, 10, 10, 5):
            choices = choices_of(program[0])
            if not triples_in(program[0]):
                for one, other in itertools.product(choices[:8], choices[-8:]):
                    self.assertIs(loose_holds(program[0], (program, one, other)), False)


class LooseHoldsTest(TellingCase):

    def assert_look(self, skeleton, value):
        self.assert_tells(loose_holds, is_loose_triple(skeleton, value), skeleton=skeleton, value=value)

    def test_all_pairs_of_choices(self):
        found = 0
        for program in [SHOWN] + small_programs(23):
            for one, other in itertools.product(choices_of(program[0]), repeat=2):
                found += is_loose_triple(program[0], (program, one, other))
                self.assert_look(program[0], (program, one, other))
        self.assertGreater(found, 10)

    def test_triples_that_were_changed(self):
        right = 0
        for skeleton in [SWAY] + [skeleton for skeleton in skeletons_of_all_sizes(3, 1) if triples_in(skeleton)][::12]:
            for value in changed(loose_program(skeleton)):
                right += is_loose_triple(skeleton, value)
                self.assert_look(skeleton, value)
        self.assertGreater(right, 10)

    def test_other_skeletons(self):
        value = loose_program(SWAY)
        for skeleton in (CALM, SWAY[:3] + (LABEL, LABEL), (LABEL,), (("jump", 3, 2, 7),) + SWAY[1:]):
            self.assert_tells(loose_holds, False, skeleton=skeleton, value=value)
            self.assert_tells(loose_holds, False, skeleton=SWAY, value=((skeleton, *value[0][1:]), *value[1:]))

    def test_parts_of_other_kinds(self):
        self.assert_tells(loose_holds, True, skeleton=SWAY, value=(SHOWN, (0,), (1,)))
        for value in ((SHOWN, (False,), (1,)), (SHOWN, (0,), (True,)), (SHOWN, [0], (1,)), (list(SHOWN), (0,), (1,)),
                      ((SWAY, (0, 0, True, 0, 0), (99, 3)), (0,), (1,)), ((SWAY, (0, False, 1, 0, 0), (99, 3)), (0,), (1,)),
                      (SHOWN, (0,)), (SHOWN, (0,), (1,), ()), (SHOWN, ((0,), (1,))), (SHOWN, (0,), (0,)), (SHOWN, (1,), (0, 1)),
                      (SHOWN, (0, 1), (0, 1)), (SHOWN, (), (1,)), (SHOWN, (2,), (1,)), (SHOWN, (0, 0), (1,)),
                      ((0,), SHOWN, (1,)), (None, (0,), (1,)), (SHOWN, {0: 0}, (1,)), (SHOWN, ([0],), ({},)), (SWAY, (0,), (1,))):
            self.assert_tells(loose_holds, False, skeleton=SWAY, value=value)

    def test_values_of_all_kinds(self):
        for skeleton in (SWAY, CALM, (LABEL,)):
            for value in of_all_kinds((SHOWN, (0,), (1,))) + (SHOWN, SWAY, SHOWN * 1000, (SHOWN,) * 3):
                self.assert_tells(loose_holds, False, skeleton=skeleton, value=value)


class DecisionTest(TellingCase):
    """[D6], in small: ways, by the package's own laying, and what stands ahead of them."""

    def test_a_triple_makes_a_way_shorter_at_some_lengths(self):
        for skeleton in some_skeletons(5, 60, 6, fills=(2, 4, 8), growths=(1, 2, 3, 4, 5)):
            for jump, other in itertools.permutations(jumps_in(skeleton), 2):
                triple = [found for found in triples(skeleton) if (found[0], found[2]) == (jump, other)]
                shorter = [lengths for lengths in all_roundings(skeleton) if
                           way_of(skeleton, lengths, (other,), jump) < way_of(skeleton, lengths, (), jump)]
                self.assertEqual(shorter == [], triple == [])
                if triple:
                    self.assertIn(other, between_places(skeleton, jump)[1])
