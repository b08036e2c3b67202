"""mended, book_loose: [A3], [I1] to [I4]."""

import itertools
import random
import time

from longernearer.mending import book_loose, mended
from longernearer.skeletons import skeleton_error
from longernearer.steadiness import steady_error
from tests.looks import AMONG, AMONG_STEADY, skeletons_of_all_sizes, triples_in
from tests.samples import FILL_SIZES, LABEL, jumps_in
from tests.telling import TellingCase

NEAR = (("jump", 1, 2, 5), LABEL, ("jump", 4, 2, 5), ("fill", 4), LABEL)


def growths_in(skeleton, sizes=None):
    """Return the dict of the growths of all jumps, by the long sizes that it has, or by others."""
    jumps = jumps_in(skeleton)
    sizes = sizes or [skeleton[jump][3] for jump in jumps]
    return {jump: size - skeleton[jump][2] for jump, size in zip(jumps, sizes)}


def with_sizes(skeleton, sizes):
    longs = dict(zip(jumps_in(skeleton), sizes))
    return tuple((*item[:3], longs[place]) if place in longs else item for place, item in enumerate(skeleton))


def least_sizes(skeleton):
    """Return the long sizes found by making each one greater as long as its jump stands last in a triple."""
    growths = growths_in(skeleton)
    while triples_in(skeleton, growths):
        growths[triples_in(skeleton, growths)[0][2]] += 1
    return tuple(skeleton[jump][2] + growths[jump] for jump in jumps_in(skeleton))


class MendedTest(TellingCase):

    def assert_mended(self, skeleton):
        sizes = self.told(mended, skeleton=skeleton)
        jumps = jumps_in(skeleton)
        self.assertEqual((type(sizes), len(sizes)), (tuple, len(jumps)))
        self.assertEqual(triples_in(skeleton, growths_in(skeleton, sizes)), ())
        had = tuple(skeleton[jump][3] for jump in jumps)
        self.assertEqual(sizes == had, triples_in(skeleton) == ())
        for at, (size, before) in enumerate(zip(sizes, had)):
            self.assertGreaterEqual(size, before)
            # Each less than it, from the size that it had on, leaves a triple, whatever the others are.
            for less in {before, (before + size) // 2, size - 1} - {size}:
                if less >= before:
                    lesser = sizes[:at] + (less,) + sizes[at + 1:]
                    self.assertNotEqual(triples_in(skeleton, growths_in(skeleton, lesser)), ())
        if max(sizes, default=0) <= 999:
            made = with_sizes(skeleton, sizes)
            self.assertIsNone(skeleton_error(made))
            self.assertIsNone(steady_error(made))
            self.assert_tells(mended, sizes, skeleton=made)
        return sizes

    def test_skeletons_of_all_sizes(self):
        loose, above = 0, 0
        for skeleton in skeletons_of_all_sizes(61, 4):
            sizes = self.assert_mended(skeleton)
            loose += triples_in(skeleton) != ()
            above += max(sizes, default=0) > 999
        self.assertGreater(loose, 100)
        self.assertGreater(above, 5)

    def test_by_making_sizes_greater(self):
        for skeleton in skeletons_of_all_sizes(62, 1)[::2]:
            self.assert_tells(mended, least_sizes(skeleton), skeleton=skeleton)

    def test_one_less_is_loose(self):
        found = 0
        for skeleton in skeletons_of_all_sizes(63, 2):
            sizes = mended(skeleton)
            for at, jump in enumerate(jumps_in(skeleton)):
                if sizes[at] > skeleton[jump][3] and max(sizes) <= 999:
                    found += 1
                    lesser = with_sizes(skeleton, sizes[:at] + (sizes[at] - 1,) + sizes[at + 1:])
                    self.assertTrue(skeleton_error(lesser) or steady_error(lesser))
        self.assertGreater(found, 60)

    def test_eight_jumps_and_fills_between_all(self):
        begun = time.process_time()
        for skeleton in (*AMONG.values(), *AMONG_STEADY.values()):
            self.assert_mended(skeleton)
        self.assertLess(time.process_time() - begun, 10)

    def test_each_fill_and_growth(self):
        for size, growth in itertools.product(FILL_SIZES, (1, 2, 3, 31, 32, 63, 64, 65, 100, 996)):
            skeleton = (("jump", 1, 2, 2 + growth), LABEL, ("jump", 4, 2, 5), ("fill", size), LABEL)
            self.assert_tells(mended, (2 + (growth + size - 1) // size * size, 5), skeleton=skeleton)
            hidden = skeleton[:3] + (("fill", 64), ("fill", size), LABEL)
            hidden = hidden[:2] + (("jump", 5, 2, 5),) + hidden[3:]
            self.assert_tells(mended, (2 + (growth + 63) // 64 * 64, 5), skeleton=hidden)

    def test_no_mended_growth_is_more_than_by_the_step(self):
        for skeleton in skeletons_of_all_sizes(64, 2):
            step = max([1] + [item[1] for item in skeleton if item[0] == "fill"])
            for size, jump in zip(mended(skeleton), jumps_in(skeleton)):
                self.assertLess(size, skeleton[jump][3] + step)

    def test_nothing_to_mend(self):
        for skeleton, sizes in (((LABEL,), ()), ((("fill", 2),) * 24, ()), ((LABEL, ("fill", 64), ("jump", 0, 1, 2)), (2,)),
                                ((LABEL,) + (("jump", 0, 1, 999),) * 8, (999,) * 8)):
            self.assert_tells(mended, sizes, skeleton=skeleton)


class BookLooseTest(TellingCase):

    def assert_book(self, growths, fills):
        """Look at book_loose, and tell whether there is a loose skeleton."""
        skeleton = self.told(book_loose, growths=growths, fills=fills)
        if not [growth for growth in growths for size in fills if growth % size]:
            self.assertIsNone(skeleton)
            return False
        self.assertIsNone(skeleton_error(skeleton))
        self.assertNotEqual(triples_in(skeleton), ())
        for growth in growths_in(skeleton).values():
            self.assertIn(growth, growths)
        for item in skeleton:
            if item[0] == "fill":
                self.assertIn(item[1], fills)
        return True

    def test_each_growth_and_fill(self):
        for growth, size in itertools.product(range(1, 999), FILL_SIZES):
            skeleton = book_loose((growth,), (size,))
            self.assertEqual(skeleton is None, growth % size == 0)
            if skeleton is not None:
                self.assertNotEqual(triples_in(skeleton), ())
        for growth, size in itertools.product((1, 2, 3, 64, 128, 960, 997, 998), FILL_SIZES):
            self.assertEqual(self.assert_book((growth,), (size,)), growth % size != 0)

    def test_books(self):
        source = random.Random(65)
        seen = []
        for _ in range(300):
            size = source.choice(FILL_SIZES)
            many = source.choice((1, 2, 5, 100))
            growths = tuple(size * source.randint(1, 998 // size) for _ in range(many))
            fills = tuple(source.choice(FILL_SIZES[:FILL_SIZES.index(size) + 1]) for _ in range(source.choice((1, 3, 100))))
            seen.append(self.assert_book(growths, fills))
            seen.append(self.assert_book(growths + (source.randint(1, 998),), fills))
            seen.append(self.assert_book(growths, (source.choice(FILL_SIZES),) + fills))
        self.assertGreater(seen.count(True), 200)
        self.assertGreater(seen.count(False), 200)

    def test_the_last_of_a_hundred(self):
        for growths, fills, loose in (
                ((64,) * 99 + (32,), (2,) * 99 + (64,), True), ((64,) * 99 + (32,), (32,) * 100, False),
                ((64,) * 100, FILL_SIZES * 16, False), ((998,) * 100, (2,) * 99 + (4,), True), ((998,) * 100, (2,) * 100, False)):
            self.assertEqual(self.assert_book(growths, fills), loose)

    def test_the_same_more_than_once(self):
        self.assertTrue(self.assert_book((3, 3, 3), (2, 2)))
        self.assertFalse(self.assert_book((4, 4, 4), (2, 4, 2, 4)))

    def test_a_book_is_loose_exactly_if_a_page_is(self):
        for growths in ((4, 8), (6,), (4, 6), (64, 128), (998, 2), (12, 20)):
            for fills in itertools.product(FILL_SIZES, repeat=2):
                pages = [book_loose((growth,), (size,)) for growth in growths for size in fills]
                self.assertEqual(book_loose(growths, fills) is None, pages.count(None) == len(pages))
