"""skeleton_text, read_skeleton, program_text, read_program: [A3], [A8], [A9]."""

import itertools
import random
import re

from longernearer.errors import BadText, Loose, NoLeast
from longernearer.programs import program_error
from longernearer.skeletons import skeleton_error
from longernearer.texts import program_text, read_program, read_skeleton, skeleton_text
from tests.samples import FILL_SIZES, LABEL, MOST, jumps_in, some_program, some_skeleton
from tests.telling import NO_TUPLES, TellingCase, exact, nested

JUMP = ("jump", 0, 1, 2)
FAR = ("jump", 23, 998, 999)
LONGEST = (FAR,) * 8 + (("fill", 64),) * 15 + (LABEL,)

# Skeletons and their texts, as [A8] tells them.
SKELETON_TEXTS = (
    ((LABEL,), ":"),
    ((("fill", 2),), "|2"),
    ((("fill", 64),), "|64"),
    ((LABEL, JUMP), ": 0/1/2"),
    ((LABEL, ("jump", 0, 1, 999)), ": 0/1/999"),
    ((LABEL, ("jump", 0, 998, 999)), ": 0/998/999"),
    ((LABEL, ("jump", 0, 997, 998)), ": 0/997/998"),
    ((("jump", 1, 10, 100), LABEL), "1/10/100 :"),
    ((LABEL, ("fill", 2), ("fill", 4), ("fill", 8), ("fill", 16), ("fill", 32), ("fill", 64)),
     ": |2 |4 |8 |16 |32 |64"),
    ((("jump", 9, 1, 2),) + (LABEL,) * 9, "9/1/2 : : : : : : : : :"),
    ((("jump", 10, 1, 2),) + (LABEL,) * 10, "10/1/2 : : : : : : : : : :"),
    ((LABEL,) * 24, " ".join(":" * 24)),
    ((LABEL,) + (JUMP,) * 8, ":" + " 0/1/2" * 8),
    (LONGEST, "23/998/999 " * 8 + "|64 " * 15 + ":"),
)

# Programs and their texts.
PROGRAM_TEXTS = (
    (((LABEL,), (3, 0), ()), ":\n3 0\n"),
    (((LABEL,), (0, MOST), ()), ":\n0 1000000000\n"),
    (((("fill", 8), LABEL), (10, 0, 999999999), ()), "|8 :\n10 0 999999999\n"),
    (((LABEL, JUMP), (0, 0, 0), (0,)), ": 0/1/2\n0 0 0\n0"),
    (((LABEL, JUMP), (MOST,) * 3, (MOST,)), ": 0/1/2\n1000000000 1000000000 1000000000\n1000000000"),
    (((LABEL, JUMP, JUMP), (1, 20, 300, 4000), (0, 70)), ": 0/1/2 0/1/2\n1 20 300 4000\n0 70"),
    ((LONGEST, (MOST,) * 25, (MOST,) * 8),
     SKELETON_TEXTS[-1][1] + "\n" + " ".join(["1000000000"] * 25) + "\n" + " ".join(["1000000000"] * 8)),
)

NO_STRINGS = tuple(value for value in NO_TUPLES if not isinstance(value, str)) + (
    (), (LABEL,), (LABEL, JUMP), ((LABEL,), (3, 0), ()), (":",), [":"], {":": ":"}, ":\n3 0\n".encode(),
    BadText(), Loose((1, 2, 0)), NoLeast(((), (1,))), nested(":", 20), (":",) * 4000,
)

NUMBER = "(?:0|[1-9][0-9]*)"
ITEM = rf"(?::|\|{NUMBER}|{NUMBER}/{NUMBER}/{NUMBER})"
NUMBERS = f"{NUMBER}(?: {NUMBER})*"
SIGNS = "0123456789:|/ \n+-_.,x\t\r\v\f\u00a0\u2003\u2028\u00b2\u0663\uff11"


def own_items(text):
    """Return the items that a text has, None if it is not of the form of one."""
    if not re.fullmatch(f"{ITEM}(?: {ITEM})*", text):
        return None
    items = []
    for word in text.split(" "):
        numbers = tuple(map(int, re.findall("[0-9]+", word)))
        items.append((("label",), ("fill",), (), ("jump",))[len(numbers)] + numbers)
    return tuple(items)


def own_skeleton(text):
    """Return the skeleton of which text is the text, None if it is that of none."""
    items = own_items(text)
    return items if skeleton_error(items) is None else None


def own_program(text):
    """Return the program of which text is the text, None if it is that of none."""
    lines = text.split("\n")
    if len(lines) != 3 or own_items(lines[0]) is None:
        return None
    if not all(line == "" or re.fullmatch(NUMBERS, line) for line in lines[1:]):
        return None
    program = (own_items(lines[0]), *[tuple(map(int, line.split())) for line in lines[1:]])
    return program if program_error(program) is None else None


def changed(text):
    """Return all texts in which one sign is left out, put in, changed, or exchanged with its neighbour."""
    texts = []
    for at in range(len(text) + 1):
        ahead, behind = text[:at], text[at:]
        texts += [ahead + behind[1:], ahead + behind[1:2] + behind[:1] + behind[2:], ahead + behind[:1] * 2 + behind[1:]]
        for sign in SIGNS:
            texts += [ahead + sign + behind, ahead + sign + behind[1:]]
    return texts


def some_skeletons():
    source = random.Random(8)
    return [
        some_skeleton(source, items, jumps, growths=(1, 2, 9, 10, 99, 100, 990))
        for items, jumps in itertools.product((1, 2, 5, 11, 24), range(9)) if jumps < items
        for _ in range(6)
    ]


class TextsCase(TellingCase):
    """What holds for the texts of skeletons and of programs alike."""

    def assert_texts(self, write, read, name, pairs):
        for value, text in pairs:
            self.assert_tells(write, text, **{name: value})
            self.assert_tells(read, value, value=text)

    def assert_back(self, write, read, values):
        texts = {}
        for value in values:
            text = write(value)
            self.assertEqual(exact(read(text)), exact(value))
            # Unlike ones have unlike texts.
            self.assertEqual(exact(texts.setdefault(text, value)), exact(value))

    def assert_bad(self, read, *values):
        for value in values:
            self.assert_refuses(read, BadText, {}, value=value)

    def assert_reads(self, read, own, text):
        """Look at what is read of a text that may be one or none."""
        expected = own(text)
        if expected is not None:
            self.assertEqual(exact(read(text)), exact(expected), repr(text))
        else:
            with self.assertRaises(BadText, msg=repr(text)):
                read(text)
        return expected is not None


class SkeletonTextTest(TextsCase):

    def test_texts(self):
        self.assert_texts(skeleton_text, read_skeleton, "skeleton", SKELETON_TEXTS)

    def test_each_fill(self):
        for size in FILL_SIZES:
            self.assert_texts(skeleton_text, read_skeleton, "skeleton", [((("fill", size),), "|" + str(size))])

    def test_goals_of_one_figure_and_of_two(self):
        for goal in range(24):
            skeleton = (LABEL,) * 12 + (("jump", goal, 1, 999),) + (LABEL,) * 11
            if goal != 12:
                text = ": " * 12 + str(goal) + "/1/999" + " :" * 11
                self.assert_texts(skeleton_text, read_skeleton, "skeleton", [(skeleton, text)])

    def test_sizes(self):
        for short, long in itertools.combinations((1, 2, 9, 10, 11, 99, 100, 101, 997, 998, 999), 2):
            skeleton = (LABEL, ("jump", 0, short, long))
            text = ": 0/" + str(short) + "/" + str(long)
            self.assert_texts(skeleton_text, read_skeleton, "skeleton", [(skeleton, text)])

    def test_read_of_text_is_the_same(self):
        self.assert_back(skeleton_text, read_skeleton, some_skeletons())

    def test_unlike_ones_have_unlike_texts(self):
        items = (LABEL, ("fill", 2), ("fill", 4), JUMP, ("jump", 0, 1, 3), ("jump", 0, 2, 3), ("jump", 1, 1, 2))
        rows = [row for many in range(1, 5) for row in itertools.product(items, repeat=many)]
        self.assert_back(skeleton_text, read_skeleton, [row for row in rows if skeleton_error(row) is None])

    def test_changed_texts(self):
        for text in (":", "|2", "|16", ": 0/1/2", "1/10/999 :", "4/1/2 3/1/3 |4 : :", "|64 : 1/12/13 |8",
                     "10/1/2" + " :" * 10):
            right = [self.assert_reads(read_skeleton, own_skeleton, other) for other in changed(text)]
            self.assertIn(False, right)

    def test_all_short_texts(self):
        right = 0
        for many in range(7):
            for signs in itertools.product("0:|/ 2", repeat=many):
                right += self.assert_reads(read_skeleton, own_skeleton, "".join(signs))
        # Those of up to three labels and fills to 2.
        self.assertEqual(right, 10)


class WrongSkeletonTextTest(TextsCase):

    def test_values_that_are_no_strings(self):
        self.assert_bad(read_skeleton, *NO_STRINGS)

    def test_blanks(self):
        self.assert_bad(read_skeleton, "", " ", "  ", " :", ": ", ":  :", " : :", ": : ", ":  |4", "| 4", "|4 ",
                        ": 0 /1/2", ": 0/ 1/2", ": 0/1/ 2", ": 0/1/2 ", "::", ":|4", "|4|4", ": 0/1/20/1/2", ":\t:")
        self.assert_bad(read_skeleton, *[": 0/1/2 |4".replace(" ", blank) for blank in
                                         ("  ", "\t", "\n", "\r", "\v", "\f", "\u00a0", "\u2003", ",", "_", "", " \n")])

    def test_line_feeds(self):
        self.assert_bad(read_skeleton, "\n", ":\n", "\n:", ":\n:", ": 0/1/2\n", ":\n3 0\n", "|4\n", "|4\r\n", "|\n4")

    def test_noughts_ahead(self):
        self.assert_bad(read_skeleton, "|04", "|002", "|00", "|0", ": 00/1/2", ": 0/01/2", ": 0/1/02", "01/1/2 :",
                        ": 0/001/002", ":" + " :" * 9 + " 09/1/2")

    def test_signs_ahead_of_numbers_and_in_them(self):
        self.assert_bad(read_skeleton, "|+4", "|-4", "|4_", "|_4", "|6_4", "|1,6", "|4.0", "|4e0", "|0x4", ": +0/1/2",
                        ": -0/1/2", ": 0/+1/2", ": 0/1/+2", ": 0/1/1_0", ": 0/1/1,0", ": 0/-1/2", ": -1/1/2",
                        ": 0/1/2.0", ": 0/1/0b11", ": 0/1/1e2", ": 0/1/--2")

    def test_figures_that_are_not_plain(self):
        self.assert_bad(read_skeleton, *["|" + figure for figure in "\u0664\u0968\uff14\u2074\u00b2\u2460\u4e8c"])
        self.assert_bad(read_skeleton, *[": 0/1/" + figure for figure in "\u0662\u0968\uff12\u00b2\u2463"])
        self.assert_bad(read_skeleton, ": \u0660/1/2", ": 0/\u0661/2", "|1\uff16", "\uff5c4", "\uff1a", ": 0\uff0f1/2")

    def test_parts_left_out_and_too_many(self):
        self.assert_bad(read_skeleton, "|", "||4", "|4|", "|4/", "|/4", "/", "//", "///", "0", "4", ": 0", ": 0/1",
                        ": 0/1/", ": 0//2", ": /1/2", ": 0/1/2/", ": /0/1/2", ": 0/1/2/3", ": 0/1/2/3/4", ": 0//1/2",
                        ": :/1/2", ": 0/|4/2", ": 0|1|2", ": 0:1:2", ":0", ":4", "0:", "label", "('label',)", "None")

    def test_what_is_no_skeleton(self):
        self.assert_bad(read_skeleton, *["|" + str(size) for size in (0, 1, 3, 5, 6, 7, 12, 24, 63, 65, 100, 128, MOST)])
        self.assert_bad(read_skeleton, ": 0/2/2", ": 0/2/1", ": 0/0/1", ": 0/0/0", ": 0/1/1000", ": 0/999/1000",
                        ": 0/999/999", ": 0/1/1000000000", ": 0/1/1000000001", ": 0/1/99999999999")
        self.assert_bad(read_skeleton, "0/1/2", "1/1/2", ": 1/1/2", ": 2/1/2", ": 24/1/2", "|4 0/1/2", ": |4 1/1/2",
                        ": 1000000000/1/2", ": 10000000000/1/2", "1/1/2 |4 :", "2/1/2 2/1/2")

    def test_bounds(self):
        self.assert_bad(read_skeleton, " ".join(":" * 25), " ".join(["|4"] * 25), ":" + " 0/1/2" * 9,
                        ":" + " 0/1/2" * 24, ":" + " 0/1/2" * 23, "0/1/2 " * 9 + ":")
        self.assert_tells(read_skeleton, (LABEL,) + (JUMP,) * 8, value=":" + " 0/1/2" * 8)

    def test_long_strings(self):
        many = 20000
        self.assert_bad(read_skeleton, *[sign * many for sign in "0123456789:|/ \n+-_a"])
        self.assert_bad(read_skeleton, "|" + "4" * (many - 1), "|" + "0" * (many - 2) + "4", ": " * (many // 2),
                        " :" * (many // 2), ": " * (many // 2 - 1) + ":", "|4 " * 6000 + "|4", ": 0/1/" + "9" * 19000,
                        ": 0/" + "1" * 5000 + "/" + "9" * 5001, ": " + "9" * 4300 + "/1/2", ": " + "9" * 4301 + "/1/2",
                        "0/" * (many // 2), ": " + "0/1/2/" * 3000, ":" + " " * (many - 1))


class ProgramTextTest(TextsCase):

    def test_texts(self):
        self.assert_texts(program_text, read_program, "program", PROGRAM_TEXTS)

    def test_skeletons_stand_in_the_first_line(self):
        for skeleton, text in SKELETON_TEXTS:
            lengths, reaches = tuple(range(len(skeleton) + 1)), tuple(range(100, 100 + len(jumps_in(skeleton))))
            lines = (text, " ".join(map(str, lengths)), " ".join(map(str, reaches)))
            pair = ((skeleton, lengths, reaches), "\n".join(lines))
            self.assert_texts(program_text, read_program, "program", [pair])

    def test_lengths_and_reaches(self):
        for number in (0, 1, 9, 10, 99, 100, 999, 1000, 65535, 10 ** 6, 123456789, MOST - 1, MOST):
            pairs = [
                (((LABEL, JUMP), (number, 0, 7), (5,)), f": 0/1/2\n{number} 0 7\n5"),
                (((LABEL, JUMP), (0, number, number), (number,)), f": 0/1/2\n0 {number} {number}\n{number}"),
            ]
            self.assert_texts(program_text, read_program, "program", pairs)

    def test_read_of_text_is_the_same(self):
        source = random.Random(9)
        self.assert_back(program_text, read_program, [some_program(source, skeleton) for skeleton in some_skeletons()])

    def test_unlike_ones_have_unlike_texts(self):
        numbers = (0, 1, 10, 11, MOST)
        programs = [((LABEL,), lengths, ()) for lengths in itertools.product(numbers, repeat=2)]
        for lengths in itertools.product(numbers, repeat=3):
            programs += [((("fill", 2), LABEL), lengths, ())]
            programs += [((LABEL, JUMP), lengths, (reach,)) for reach in numbers]
        self.assert_back(program_text, read_program, programs)

    def test_changed_texts(self):
        for text in (":\n3 0\n", ": 0/1/2\n0 10 7\n5", "|8 :\n1 1000000000 0\n", "2/1/2 2/1/3 :\n0 0 10 0\n9 1000000000"):
            right = [self.assert_reads(read_program, own_program, other) for other in changed(text)]
            self.assertIn(True, right)
            self.assertIn(False, right)

    def test_lines_left_out_put_in_and_exchanged(self):
        lines = (": 0/1/2", "0 10 7", "5", "", " ")
        for many in range(6):
            for row in itertools.product(lines, repeat=many):
                self.assert_reads(read_program, own_program, "\n".join(row))


class WrongProgramTextTest(TextsCase):

    def test_values_that_are_no_strings(self):
        self.assert_bad(read_program, *NO_STRINGS)

    def test_lines(self):
        self.assert_bad(read_program, "", "\n", "\n\n", "\n\n\n", ":", ":\n", ":\n\n", ":\n3 0", "3 0\n", "\n3 0\n",
                        ":\n3 0\n\n", ":\n3 0\n\n\n", "\n:\n3 0\n", ":\n\n3 0", ":\n\n3 0\n", ":\n3 0 ", ": 3 0 ", ":3 0\n",
                        ":\n3 0\r\n", ":\r\n3 0\r\n", ":\r3 0\r", ":\u20283 0\u2028", ":\v3 0\v")
        self.assert_bad(read_program, ": 0/1/2\n0 0 0", ": 0/1/2\n0 0 0\n", ": 0/1/2\n0 0 0\n5\n", "\n: 0/1/2\n0 0 0\n5",
                        ": 0/1/2\n0 0 0 5", ": 0/1/2\n0 0\n0\n5", ":\n0/1/2\n0 0 0\n5", ": 0/1/2\n5\n0 0 0",
                        "0 0 0\n: 0/1/2\n5", "0 0 0\n5\n: 0/1/2", ": 0/1/2\n\n5", "\n0 0 0\n5", ": 0/1/2 0 0 0 5")

    def test_blanks(self):
        text = ": 0/1/2\n0 10 7\n5"
        for at, sign in enumerate(text):
            if sign == " ":
                self.assert_bad(read_program, *[text[:at] + blank + text[at + 1:] for blank in
                                                ("  ", "", "\t", "\u00a0", "\u2003", ",", "_", "\n", "\r")])
            if sign == "\n":
                self.assert_bad(read_program, *[text[:at] + feed + text[at + 1:] for feed in
                                                (" \n", "\n ", "\n\n", "\r\n", "\r", " ", "", "\t\n", "\v")])
        self.assert_bad(read_program, " " + text, text + " ", text + "\n", "\n" + text, text + "\t", ":\n3 0\n ")

    def test_numbers(self):
        for wrong in ("00", "01", "0000000001", "+1", "-1", "-0", "+0", "1_0", "_1", "1_", "1,0", "1.0", "1e1", "0x1",
                      "0b1", "0o1", "1000000001", "9999999999", "10000000000", "01000000000", "00000000000",
                      "\u0661", "\u00b2", "\uff11", "1\u0660", "x", "", ":", "|4", "0/1/2", "True", "None", "nan"):
            self.assert_bad(read_program, f":\n{wrong} 0\n", f":\n0 {wrong}\n", f": 0/1/2\n0 0 0\n{wrong}",
                            f": 0/1/2\n0 {wrong} 0\n5", f":\n0 0\n{wrong or 0}")

    def test_how_many_numbers(self):
        for many in (0, 1, 2, 4, 5, 24, 25, 26, 1000):
            self.assert_bad(read_program, ": 0/1/2\n" + " ".join(["0"] * many) + "\n5")
        for many in (0, 2, 3, 8, 9, 1000):
            self.assert_bad(read_program, ": 0/1/2\n0 0 0\n" + " ".join(["5"] * many))
        self.assert_bad(read_program, ":\n3 0\n0", ":\n3\n", ":\n3 0 0\n", ":\n3 0\n3 0", "0/1/2 :\n0 0 0\n")

    def test_wrong_skeletons(self):
        for text in ("", " ", "|3", "|04", ": 0/2/2", ": 1/1/2", "0", " :", ": "):
            many = len(text.split(" "))
            self.assert_bad(read_program, text + "\n" + " ".join(["0"] * (many + 1)) + "\n",
                            text + "\n" + " ".join(["0"] * (many + 1)) + "\n0")
        self.assert_bad(read_program, " ".join(":" * 25) + "\n" + " ".join(["0"] * 26) + "\n",
                        ":" + " 0/1/2" * 9 + "\n" + " ".join(["0"] * 11) + "\n" + " ".join(["0"] * 9))

    def test_skeletons_alone(self):
        self.assert_bad(read_program, *[text for _, text in SKELETON_TEXTS])
        self.assert_bad(read_skeleton, *[text for _, text in PROGRAM_TEXTS])

    def test_long_strings(self):
        many = 20000
        self.assert_bad(read_program, *[sign * many for sign in "0123456789:|/ \n+-_a"])
        for figures in ("9" * 4300, "9" * 4301, "1" * 19000, "0" * 19000):
            self.assert_bad(read_program, f":\n3 {figures}\n", f":\n{figures} 3\n", f": 0/1/2\n0 0 0\n{figures}",
                            f"|{figures}\n0 0\n", f":\n3 0\n{figures}", f":\n3 0\n-{figures}")
        self.assert_bad(read_program, ":\n" + "0 " * 9990, ":\n" + "0 " * 9990 + "0\n", ":\n3 0" + "\n" * 19000,
                        ":\n3 0\n" + " " * 19000, ":\n3 0\n" + "0 " * 9000 + "0", ": " * 9990 + ":\n3 0\n")
