"""tied_pairs, tight_program, tight_holds: [A3], [E1] to [E4]."""

import itertools
import time

from longernearer.errors import Loose, Untied
from longernearer.growing import growing_ends
from longernearer.programs import program_error
from longernearer.shrinking import shrinking_ends
from longernearer.tying import tied_pairs, tight_holds, tight_program
from tests.changed import changed, of_all_kinds
from tests.looks import (
    AMONG, AMONG_STEADY, is_choice, is_program_of, serving_in, skeletons_of_all_sizes, small_programs, some_skeletons,
    spare_in, tied_in, triples_in,
)
from tests.rowing import ends_of
from tests.samples import LABEL, MOST, choices_of, jumps_in
from tests.telling import TellingCase

KNOT = (LABEL, ("jump", 3, 2, 5), ("jump", 0, 2, 5), LABEL)
HELD = (KNOT, (0, 0, 0, 0, 0), (2, 4))
APART = (("jump", 3, 2, 5), ("jump", 2, 2, 5), LABEL, LABEL)
SWAY = (("jump", 3, 2, 5), ("jump", 3, 2, 4), ("fill", 4), LABEL)
# The jumps 0 and 1 with the fill 2 are a triple, the jumps 4 and 5 are tied.
BOTH = SWAY + (("jump", 6, 1, 2), ("jump", 3, 1, 2), LABEL)


def is_tight_pair(skeleton, value):
    """Tell whether value is a program with skeleton and an end of shrinking that a serving choice does not have in it."""
    if type(value) is not tuple or len(value) != 2 or not is_program_of(skeleton, value[0]):
        return False
    program, choice = value
    if not is_choice(skeleton, choice) or choice not in ends_of(program, jumps_in(skeleton), spare_in):
        return False
    return bool([other for other in serving_in(program) if not set(choice) <= set(other)])


def skeletons():
    return skeletons_of_all_sizes(6, 5) + [
        skeleton for items in (3, 4, 6, 10, 16, 24) for skeleton in some_skeletons(items, 30, items, growths=(64, 128))
    ]


class TiedPairsTest(TellingCase):

    def test_skeletons_of_all_sizes(self):
        many = 0
        for skeleton in (*skeletons(), *AMONG.values()):
            expected = tied_in(skeleton)
            self.assert_tells(tied_pairs, expected, skeleton=skeleton)
            many += len(expected) > 1
        self.assertGreater(many, 60)

    def test_places(self):
        for skeleton, expected in (
                (KNOT, ((1, 2),)), (APART, ()), (BOTH, ((4, 5),)), ((LABEL,), ()),
                ((LABEL, ("jump", 0, 1, 2), ("jump", 0, 1, 2)), ()),
                ((LABEL, ("jump", 2, 1, 2), LABEL, ("jump", 0, 1, 2)), ()),
                ((LABEL, ("jump", 4, 1, 2), LABEL, ("jump", 2, 1, 2), LABEL), ()),
                ((LABEL, LABEL, ("jump", 0, 1, 2), ("jump", 1, 1, 2), LABEL), ()),
                ((("jump", 3, 1, 2), LABEL, ("jump", 1, 1, 2), LABEL), ()),
                ((LABEL, ("jump", 4, 1, 2), ("fill", 2), ("jump", 0, 1, 2), LABEL), ((1, 3),)),
                ((LABEL, ("jump", 3, 1, 2), LABEL, LABEL, ("jump", 0, 1, 2)), ()),
                ((("jump", 2, 1, 2), ("jump", 3, 1, 2), LABEL, LABEL, ("jump", 2, 1, 2)), ())):
            self.assertEqual(tied_in(skeleton), expected)
            self.assert_tells(tied_pairs, expected, skeleton=skeleton)

    def test_eight_jumps_all_tied(self):
        skeleton = (LABEL,) + (("jump", 9, 1, 2),) * 4 + (("jump", 0, 1, 2),) * 4 + (LABEL,)
        expected = tuple((one, other) for one in range(1, 5) for other in range(5, 9))
        self.assert_tells(tied_pairs, expected, skeleton=skeleton)


class TightProgramTest(TellingCase):

    def assert_tight(self, skeleton):
        """Look at tight_program, and tell what came of it."""
        found = triples_in(skeleton)
        if found:
            self.assert_refuses(tight_program, Loose, {"triple": found[0]}, skeleton=skeleton)
            return "loose"
        if not tied_in(skeleton):
            self.assert_refuses(tight_program, Untied, {}, skeleton=skeleton)
            return "untied"
        value = self.told(tight_program, skeleton=skeleton)
        self.assertIs(type(value), tuple)
        program, choice = value
        self.assertIsNone(program_error(program))
        self.assertEqual(program[0], skeleton)
        self.assertTrue(is_tight_pair(skeleton, value))
        self.assertIn(choice, shrinking_ends(program))
        self.assertNotEqual((choice,), growing_ends(program))
        self.assert_tells(tight_holds, True, skeleton=skeleton, value=value)
        return "tight"

    def test_skeletons_of_all_sizes(self):
        found = [self.assert_tight(skeleton) for skeleton in skeletons()]
        for kind in ("loose", "untied", "tight"):
            self.assertGreater(found.count(kind), 50)

    def test_loose_ahead_of_untied(self):
        self.assertEqual(self.assert_tight(SWAY), "loose")
        self.assertEqual(self.assert_tight(BOTH), "loose")
        self.assertEqual(self.assert_tight(APART), "untied")
        tied = [skeleton for skeleton in skeletons() if triples_in(skeleton) and tied_in(skeleton)]
        self.assertGreater(len(tied), 20)

    def test_fills_around_tied_jumps(self):
        # Fills that divide the growths, and others that no jump stands ahead of.
        for size, growth in itertools.product((2, 4, 64), (1, 2, 64, 128)):
            fill, forward, back = ("fill", size), ("jump", 6, 1, 1 + growth), ("jump", 1, 3, 3 + growth)
            kind = self.assert_tight((fill, LABEL, forward, fill, back, fill, LABEL))
            self.assertEqual(kind, "tight" if not triples_in((fill, LABEL, forward, fill, back, fill, LABEL)) else "loose")
            self.assertEqual(self.assert_tight((LABEL, fill, ("jump", 5, 1, 2), back[:1] + (0, 1, 999), fill, LABEL)), "tight")

    def test_eight_jumps_and_fills_between_all(self):
        begun = time.process_time()
        for skeleton in (*AMONG.values(), *AMONG_STEADY.values()):
            self.assert_tight(skeleton)
        self.assertEqual(self.assert_tight(AMONG_STEADY["both"]), "untied")
        skeleton = (LABEL,) + (("jump", 23, 1, 65), ("fill", 2)) * 4 + (("jump", 0, 1, 65), ("fill", 8)) * 4 + (("fill", 64),) * 6
        self.assertEqual(self.assert_tight(skeleton + (LABEL,)), "tight")
        self.assertLess(time.process_time() - begun, 30)

    def test_steady_and_untied_shrinks_to_the_least(self):
        for program in small_programs(41):
            skeleton = program[0]
            if not triples_in(skeleton) and not tied_in(skeleton):
                self.assertEqual(shrinking_ends(program), growing_ends(program))
                for choice in choices_of(skeleton):
                    self.assert_tells(tight_holds, False, skeleton=skeleton, value=(program, choice))


class TightHoldsTest(TellingCase):

    def assert_look(self, skeleton, value):
        self.assert_tells(tight_holds, is_tight_pair(skeleton, value), skeleton=skeleton, value=value)

    def test_all_choices(self):
        found = {"loose": 0, "steady": 0}
        for program in [HELD] + small_programs(42) + small_programs(43):
            for choice in choices_of(program[0]):
                right = is_tight_pair(program[0], (program, choice))
                found["loose" if triples_in(program[0]) else "steady"] += right
                self.assert_look(program[0], (program, choice))
        self.assertGreater(found["loose"], 10)
        self.assertGreater(found["steady"], 3)

    def test_pairs_that_were_changed(self):
        right = 0
        tight = [skeleton for skeleton in skeletons() if not triples_in(skeleton) and tied_in(skeleton)]
        for skeleton in [KNOT] + tight[::25]:
            for value in changed(tight_program(skeleton)):
                right += is_tight_pair(skeleton, value)
                self.assert_look(skeleton, value)
        self.assertGreater(right, 10)

    def test_other_skeletons(self):
        value = tight_program(KNOT)
        for skeleton in (APART, KNOT + (LABEL,), (LABEL,), KNOT[:1] + (("jump", 3, 2, 6),) + KNOT[2:]):
            self.assert_tells(tight_holds, False, skeleton=skeleton, value=value)
            self.assert_tells(tight_holds, False, skeleton=KNOT, value=((skeleton, *value[0][1:]), value[1]))

    def test_parts_of_other_kinds(self):
        self.assert_tells(tight_holds, True, skeleton=KNOT, value=(HELD, (1, 2)))
        for value in ((HELD, (True, 2)), (HELD, [1, 2]), (HELD, (2, 1)), (HELD, (1, 2, 2)), (HELD, (1, 1, 2)), (HELD, (1,)),
                      (HELD, (2,)), (HELD, (1, 3)), (HELD,), (HELD, (1, 2), ()), (HELD, 1, 2), ((1, 2), HELD), [HELD, (1, 2)],
                      (list(HELD), (1, 2)), ((KNOT, (False, 0, 0, 0, 0), (2, 4)), (1, 2)), (HELD, {1: 1, 2: 2}), (HELD, "12"),
                      (HELD, ((1, 2),)), (HELD, ([1], {})), (KNOT, (1, 2)), (None, (1, 2)), (HELD, (-3, -2)), (HELD, None)):
            self.assert_tells(tight_holds, False, skeleton=KNOT, value=value)

    def test_values_of_all_kinds(self):
        for skeleton in (KNOT, APART, (LABEL,), SWAY):
            for value in of_all_kinds((HELD, (1, 2))) + (HELD, KNOT, HELD * 1000, (HELD, HELD)):
                self.assert_tells(tight_holds, False, skeleton=skeleton, value=value)

    def test_no_jumps(self):
        program = ((LABEL,), (MOST, 0), ())
        for choice in ((), (0,), []):
            self.assert_tells(tight_holds, False, skeleton=(LABEL,), value=(program, choice))
