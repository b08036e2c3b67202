"""The tests' own looks tell the same as the laying byte by byte that they stand for."""

import unittest

from tests.looks import (
    AMONG, AMONG_STEADY, bytes_in_all, is_paper, least_in, quick_programs, serving_in, small_programs, spare_in, stuck_in,
    triples_in, way_in,
)
from tests.changed import changed
from tests.samples import LABEL, bytewise, bytewise_spare, bytewise_stuck, bytewise_way, choices_of, jumps_in


class LooksTest(unittest.TestCase):

    def test_byte_by_byte(self):
        for program in small_programs(1)[::2] + quick_programs(2, 5, 12, 4):
            skeleton, lengths, _ = program
            for choice in choices_of(skeleton):
                self.assertEqual(stuck_in(program, choice), bytewise_stuck(program, choice))
                self.assertEqual(spare_in(program, choice), bytewise_spare(program, choice))
                self.assertEqual(bytes_in_all(skeleton, lengths, choice), len(bytewise(skeleton, lengths, choice)[0]))
                for jump in jumps_in(skeleton):
                    self.assertEqual(way_in(skeleton, lengths, choice, jump), bytewise_way(skeleton, lengths, choice, jump))

    def test_papers_are_there_where_no_least_choice_is(self):
        without = 0
        for program in small_programs(3):
            able = serving_in(program)
            papers = [(one, other) for one in able for other in able if is_paper(program, (one, other))]
            self.assertEqual(papers == [], least_in(program) is not None)
            without += papers != []
        self.assertGreater(without, 5)

    def test_samples(self):
        for skeleton in (*AMONG.values(), *AMONG_STEADY.values()):
            self.assertEqual((len(skeleton), len(jumps_in(skeleton))), (24, 8))
        for name, skeleton in AMONG.items():
            self.assertEqual(triples_in(skeleton) == (), name == "back", name)
            self.assertEqual(triples_in(AMONG_STEADY[name]), ())

    def test_changed(self):
        values = [repr(value) for value in changed((LABEL, 1))]
        for value in ("[('label',), 1]", "(('label',), True)", "(['label'], 1)", "(1, ('label',))", "(('label',),)",
                      "(('label',), 1, 1)", "(('label',), 2)", "(('label', 'label'), 1)", "(('labels',), 1)", "None"):
            self.assertIn(value, values)
