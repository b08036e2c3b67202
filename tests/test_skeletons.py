"""skeleton_error and jumps_of: [A3], [A4], [A5]."""

import itertools

from longernearer.errors import BadLog, Loose, Unfit
from longernearer.skeletons import jumps_of, skeleton_error
from tests.telling import HUGE, NO_INTEGERS, NO_TUPLES, TellingCase, nested

LABEL = ("label",)
FILL = ("fill", 4)
JUMP = ("jump", 0, 1, 2)
LOST = ("jump", 77, 1, 2)

NO_ITEMS = NO_TUPLES + (
    (), ("label", 1), ("label", None), ("label", "label"), ("Label",), ("label ",), ("",), ("fill",), ("jump",),
    (None,), (True,), (0,), (("label",),), (["label"],), ({},), (Unfit(),),
    ("fill", 4, 4), ("fill", 4, None), ("Fill", 4), (4, "fill"), ("label", 4), ("jump", 4), (None, 4), ("fill", (4,)),
    ("jump", 0, 1), ("jump", 0, 1, 2, 3), ("Jump", 0, 1, 2), ("fill", 0, 1, 2), ("label", 0, 1, 2), (0, 1, 2),
    (0, 0, 1, 2), (None, 0, 1, 2), ("jump", (0, 1, 2)), nested("label", 20), nested(LABEL, 20), (LABEL, LABEL),
)


class SkeletonErrorTest(TellingCase):

    def assert_error(self, expected, *items):
        self.assert_tells(skeleton_error, expected, value=items)

    def assert_second_item(self, expected, item):
        """Look at an item as it stands alone and behind a label."""
        self.assert_error(expected and (expected, 1), LABEL, item)
        self.assert_error(expected and (expected, 1), LABEL, item, LABEL, FILL)

    def test_skeletons_of_labels(self):
        for many in (1, 2, 23, 24):
            self.assert_error(None, *[LABEL] * many)

    def test_numbers_of_items(self):
        self.assert_error("form")
        for many in (25, 26, 100, 4000):
            self.assert_error("form", *[LABEL] * many)
            self.assert_error("form", *[None] * many)
        self.assert_error(("item", 23), *[LABEL] * 23, None)
        self.assert_error("form", *[LABEL] * 24, None)

    def test_no_tuples(self):
        for value in NO_TUPLES + ([LABEL], [LABEL, JUMP], {0: LABEL}, {LABEL: LABEL}, "l" * 20):
            self.assert_tells(skeleton_error, "form", value=value)
        self.assert_tells(skeleton_error, "form", value=nested(LABEL, 20))

    def test_an_item_is_no_skeleton(self):
        for item in (LABEL, FILL, JUMP):
            self.assert_tells(skeleton_error, ("item", 0), value=item)

    def test_items_that_are_none(self):
        for item in NO_ITEMS:
            self.assert_error(("item", 0), item)
            self.assert_second_item("item", item)
            self.assert_error(("item", 23), *[LABEL] * 23, item)

    def test_items_as_lists(self):
        for item in (LABEL, FILL, JUMP):
            self.assert_second_item("item", list(item))

    def test_fills(self):
        for size in (2, 4, 8, 16, 32, 64):
            self.assert_error(None, ("fill", size))
            self.assert_second_item(None, ("fill", size))
            self.assert_second_item("item", ("fill", -size))
            self.assert_second_item("item", ("fill", size + 1))
            self.assert_second_item("item", ("fill", str(size)))
        for size in NO_INTEGERS + (0, 1, -1, 3, 6, 24, 62, 63, 65, 128, 256, HUGE, -HUGE, 2 ** 1000):
            self.assert_second_item("item", ("fill", size))

    def test_sizes(self):
        for short, long in ((1, 2), (1, 998), (1, 999), (997, 998), (997, 999), (998, 999), (500, 501), (2, 64)):
            self.assert_second_item(None, ("jump", 0, short, long))
            self.assert_second_item("item", ("jump", 0, long, short))
        for short, long in ((0, 1), (0, 2), (0, 0), (1, 1), (2, 2), (998, 998), (999, 999), (1, 1000), (999, 1000),
                            (1000, 1001), (-1, 2), (-2, -1), (1, 0), (1, -2), (1, HUGE), (HUGE, HUGE + 1),
                            (-HUGE, 2), (1, -HUGE)):
            self.assert_second_item("item", ("jump", 0, short, long))

    def test_sizes_that_are_no_integers(self):
        for size in NO_INTEGERS:
            self.assert_second_item("item", ("jump", 0, size, 2))
            self.assert_second_item("item", ("jump", 0, 1, size))
            self.assert_second_item("item", ("jump", 0, size, size))
        self.assert_second_item("item", ("jump", 0, "1", "2"))

    def test_goals_ahead_and_behind(self):
        self.assert_error(None, JUMP[:1] + (1, 1, 2), LABEL)
        self.assert_error(None, LABEL, JUMP)
        self.assert_error(None, ("jump", 23, 1, 2), *[FILL] * 22, LABEL)
        self.assert_error(None, LABEL, *[FILL] * 22, JUMP)
        self.assert_error(None, ("jump", 2, 1, 2), FILL, LABEL, ("jump", 2, 998, 999), LABEL, ("jump", 4, 1, 999))

    def test_goals_that_are_no_places_of_labels(self):
        for goal in (-1, -2, -3, -4, 4, 5, 24, HUGE, -HUGE, 1, 2):
            self.assert_error(("goal", 1), LABEL, ("jump", goal, 1, 2), FILL, LABEL)
        self.assert_error(("goal", 0), ("jump", 1, 1, 2), ("jump", 2, 1, 2), LABEL)
        self.assert_error(("goal", 0), ("jump", 0, 1, 2))
        self.assert_error(("goal", 2), LABEL, JUMP, ("jump", 1, 1, 2))

    def test_goals_that_are_no_integers(self):
        for goal in NO_INTEGERS:
            self.assert_second_item("item", ("jump", goal, 1, 2))

    def test_numbers_of_jumps(self):
        for many in range(9):
            self.assert_error(None, LABEL, *[JUMP] * many)
        self.assert_error(None, LABEL, *[JUMP] * 8, *[FILL] * 15)
        for many in (9, 10, 23):
            self.assert_error("jumps", LABEL, *[JUMP] * many)
        self.assert_error("jumps", *[("jump", 23, 1, 2), FILL] * 11, ("jump", 23, 1, 2), LABEL)

    def test_the_first_of_several(self):
        self.assert_error(("item", 1), LABEL, None, ("fill", 3))
        self.assert_error(("item", 1), LOST, ("fill", 3))
        self.assert_error(("item", 23), LOST, *[JUMP] * 22, ("label", 1))
        self.assert_error(("goal", 0), LOST, ("jump", -1, 1, 2), LABEL)
        self.assert_error(("goal", 1), LABEL, ("jump", 1, 1, 2), LOST)
        self.assert_error(("goal", 10), LABEL, *[JUMP] * 9, LOST)
        self.assert_error(("goal", 1), LABEL, LOST, *[JUMP] * 9)
        self.assert_error(("item", 10), LABEL, *[JUMP] * 9, ("jump", 0, 2, 2))
        self.assert_error("form", *[LOST] * 25)
        self.assert_tells(skeleton_error, "form", value=[LOST, None])

    def test_rows_of_right_and_wrong_items(self):
        kinds = {LABEL: "", FILL: "", JUMP: "", LOST: "goal", ("fill", 3): "item", ("jump", 0, 2, 1): "item"}
        for items in itertools.product(kinds, repeat=3):
            for word in ("item", "goal"):
                places = [place for place in range(4) if kinds[(LABEL, *items)[place]] == word]
                if places:
                    self.assert_error((word, places[0]), LABEL, *items)
                    break
            else:
                self.assert_error(None, LABEL, *items)

    def test_what_was_told_and_raised(self):
        for value in (Unfit(), Loose((1, 2, 0)), BadLog(LABEL), (LABEL, BadLog(0)), (LABEL, ("fill", Unfit()))):
            expected = ("item", 1) if isinstance(value, tuple) else "form"
            self.assert_tells(skeleton_error, expected, value=value)
        self.assert_tells(skeleton_error, ("item", 0), value=skeleton_error((None,)))
        self.assert_tells(skeleton_error, "form", value=skeleton_error(()))

    def test_nested_values(self):
        for depth in range(1, 21):
            self.assert_second_item("item", nested(None, depth))
            self.assert_second_item("item", ("fill", nested(4, depth)))
            self.assert_second_item("item", ("jump", nested(0, depth), 1, 2))
            self.assert_second_item("item", ("jump", 0, 1, nested(2, depth)))
        self.assert_error(("item", 1), LABEL, tuple(range(3900)))


class JumpsOfTest(TellingCase):

    def test_none(self):
        for skeleton in ((LABEL,), (FILL,), (FILL, LABEL), (LABEL,) * 24):
            self.assert_tells(jumps_of, (), skeleton=skeleton)

    def test_some(self):
        self.assert_tells(jumps_of, (1,), skeleton=(LABEL, JUMP))
        self.assert_tells(jumps_of, (0,), skeleton=(("jump", 1, 1, 2), LABEL))
        self.assert_tells(jumps_of, (1, 3, 4), skeleton=(LABEL, JUMP, FILL, JUMP, JUMP, LABEL))
        self.assert_tells(jumps_of, (1, 23), skeleton=(LABEL, JUMP, *[FILL] * 21, JUMP))

    def test_eight(self):
        self.assert_tells(jumps_of, tuple(range(1, 9)), skeleton=(LABEL, *[JUMP] * 8))
        self.assert_tells(jumps_of, tuple(range(16, 24)), skeleton=(LABEL, *[FILL] * 15, *[JUMP] * 8))
        self.assert_tells(jumps_of, tuple(range(1, 17, 2)), skeleton=(LABEL, JUMP) + (FILL, JUMP) * 7)
