"""The examples of DOC.md, as they are written there, and of README.md; names stay set from one to the next."""

import doctest
import pathlib
import unittest

from longernearer.errors import LayError

README = pathlib.Path(__file__).resolve().parent.parent / "README.md"

EXAMPLES = {
    "A5": r'''
    >>> from longernearer.skeletons import jumps_of, skeleton_error
    >>> turn, eight = (("jump", 4, 1, 2), ("jump", 3, 1, 3), ("fill", 4), ("label",), ("label",)), (("jump", 0, 1, 2),) * 8
    >>> [skeleton_error(value) for value in (turn, (("label",),), (("label",),) + eight, (("label",),) * 24)], jumps_of(turn), jumps_of((("fill", 64),))
    ([None, None, None, None], (0, 1), ())
    >>> [skeleton_error(value) for value in ((), (("label",),) * 25, list(turn), ("label",), (("label",), ["label"]), (("fill", 3),), (("fill", 128),), (("label", 1),))]
    ['form', 'form', 'form', ('item', 0), ('item', 1), ('item', 0), ('item', 0), ('item', 0)]
    >>> [skeleton_error((("label",), jump)) for jump in (("jump", 0, 2, 2), ("jump", 0, 0, 2), ("jump", 0, 1, 1000), ("jump", True, 1, 2), ("jump", 0, 1), ("jump", 1, 1, 2), ("jump", -1, 1, 2))]
    [('item', 1), ('item', 1), ('item', 1), ('item', 1), ('item', 1), ('goal', 1), ('goal', 1)]
    >>> skeleton_error((("label",),) + eight + (("jump", 0, 1, 2),)), skeleton_error((("jump", 9, 1, 2), ("fill", 5)))
    ('jumps', ('item', 1))
''',
    "A7": r'''
    >>> from longernearer.programs import choice_error, lengths_error, program_error, reaches_error
    >>> [lengths_error(turn, value) for value in ((0,) * 6, (0, 0, 10 ** 9, 0, 0, 7), (0,) * 5, [0] * 6, (0, 0, -1, 0, 0, None), (0, 0, 0, 0, 0, True))]
    [None, None, 'form', 'form', ('length', 2), ('length', 5)]
    >>> [reaches_error(turn, value) for value in ((9, 7), (0, 10 ** 9), (9,), (9, 10 ** 9 + 1), ("9", 7))], reaches_error((("label",),), ()), reaches_error((("label",), ("jump", 0, 1, 2)), (-1,))
    ([None, None, 'form', ('reach', 1), ('reach', 0)], None, ('reach', 0))
    >>> code = (turn, (0, 0, 1, 0, 0, 0), (9, 7))
    >>> [program_error(value) for value in (code, code[:2], list(code), ((), (0,), ()), (turn, (0,) * 5, (9,)), (turn, (0,) * 6, (9, -7)))]
    [None, 'form', 'form', ('skeleton', 'form'), ('lengths', 'form'), ('reaches', ('reach', 1))]
    >>> [choice_error(turn, value) for value in ((), (0,), (0, 1), [0], (0, 2), (1, 0), (1, 1), (True,), 0)]
    [None, None, None, 'form', ('jump', 1), ('order', 1), ('order', 1), ('jump', 0), 'form']
''',
    "A8": r'''
    >>> from longernearer.texts import program_text, read_program, read_skeleton, skeleton_text
    >>> skeleton_text(turn), program_text(code) == "4/1/2 3/1/3 |4 : :\n0 0 1 0 0 0\n9 7", program_text(((("label",),), (3, 0), ()))
    ('4/1/2 3/1/3 |4 : :', True, ':\n3 0\n')
    >>> read_skeleton(": 0/12/99 |64"), read_skeleton(":"), read_program(program_text(code)) == code, read_program(":\n3 0\n")
    ((('label',), ('jump', 0, 12, 99), ('fill', 64)), (('label',),), True, ((('label',),), (3, 0), ()))
    >>> read_skeleton(": 0/2/2")
    raises BadText()
    >>> read_skeleton(":  |4")
    raises BadText()
    >>> read_skeleton("|04")
    raises BadText()
    >>> read_program(":\n3 0")
    raises BadText()
''',
    "B2": r'''
    >>> from longernearer.laying import ahead_of_way, in_way, laid, serves, stuck, total, way_of
    >>> loop, bytes_between = (("label",), ("jump", 3, 2, 5), ("fill", 8), ("label",), ("jump", 0, 2, 5)), (3, 4, 1, 0, 6, 2)
    >>> laid(loop, bytes_between, ()), total(loop, bytes_between, ())
    (((3, 3), (7, 9), (10, 16), (16, 16), (22, 24)), 26)
    >>> laid(loop, bytes_between, (1,)), total(loop, bytes_between, (1,)), total(loop, bytes_between, (4,))
    (((3, 3), (7, 12), (13, 16), (16, 16), (22, 24)), 26, 29)
''',
    "B3": r'''
    >>> in_way(loop, 1), in_way(loop, 4), ahead_of_way(loop, 1), ahead_of_way(loop, 4)
    ((2,), (1, 2, 3), (0,), ())
    >>> [way_of(loop, bytes_between, choice, 1) for choice in ((), (1,), (4,))], [way_of(loop, bytes_between, choice, 4) for choice in ((), (1,), (1, 4))]
    ([7, 7, 7], [21, 21, 21])
    >>> side = (("jump", 1, 2, 5), ("label",), ("jump", 4, 2, 3), ("fill", 4), ("label",))
    >>> in_way(side, 2), ahead_of_way(side, 2), ahead_of_way(side, 0)
    ((3,), (0, 1), ())
    >>> [(way_of(side, (0, 1, between, 0, 0, 0), (), 2), way_of(side, (0, 1, between, 0, 0, 0), (0,), 2)) for between in (0, 1, 2, 3)]
    [(3, 0), (2, 3), (1, 2), (0, 1)]
''',
    "B4": r'''
    >>> [stuck((loop, bytes_between, reaches), ()) for reaches in ((7, 21), (6, 21), (6, 20), (0, 0))], stuck((loop, bytes_between, (6, 20)), (4,))
    ([(), (1,), (1, 4), (1, 4)], (1,))
    >>> small = (side, (0, 1, 0, 0, 0, 0), (0, 2))
    >>> [serves(small, choice) for choice in ((), (0,), (2,), (0, 2))], stuck(small, ()), stuck(small, (2,))
    ([False, True, False, True], (0, 2), (0,))
''',
    "C2": r'''
    >>> from longernearer.growing import grown, growing_ends, row_holds
    >>> side = (("jump", 1, 2, 5), ("label",), ("jump", 4, 2, 3), ("fill", 4), ("label",))
    >>> small = (side, (0, 1, 0, 0, 0, 0), (0, 2))
    >>> grown(small, (0, 2)), grown(small, (2, 0)), growing_ends(small), growing_ends((side, (0, 1, 0, 0, 0, 0), (1, 3)))
    ((0,), (2, 0), ((0,), (0, 2)), ((),))
    >>> [row_holds(small, value) for value in ((0,), (2, 0), (0, 2), (2,), (), [0], (0, 0), (False,), None)]
    [True, True, False, False, False, False, False, False, False]
    >>> chain = (("jump", 2, 1, 3), ("jump", 3, 1, 4), ("label",), ("label",))
    >>> steps = (chain, (0, 0, 5, 4, 0), (6, 9))
    >>> grown(steps, (0, 1)), grown(steps, (1, 0)), growing_ends(steps), growing_ends((chain, (0, 0, 5, 4, 0), (6, 8))), grown((chain, (0, 0, 5, 4, 0), (6, 8)), (0, 1))
    ((), (), ((),), ((0, 1),), (1, 0))
''',
    "C3": r'''
    >>> from longernearer.shrinking import shrink_holds, shrinking_ends, shrunk
    >>> shrunk(small, (0, 2)), shrinking_ends(small), shrunk(steps, (0, 1)), shrunk(steps, (1, 0)), shrinking_ends(steps)
    ((2,), ((0,),), (1, 0), (1, 0), ((),))
    >>> tied = (("label",), ("jump", 3, 2, 4), ("jump", 0, 2, 4), ("label",))
    >>> crossing = (tied, (0, 0, 0, 0, 0), (2, 4))
    >>> grown(crossing, (1, 2)), growing_ends(crossing), shrunk(crossing, (1, 2)), shrinking_ends(crossing)
    ((), ((),), (), ((1, 2),))
    >>> shrinking_ends((tied, (0, 0, 0, 0, 0), (4, 4))), shrinking_ends((tied, (0, 0, 0, 0, 0), (4, 6)))
    (((),), ((),))
    >>> [shrink_holds(small, value) for value in ((2,), (0,), (), (2, 0), [2], None)], shrink_holds(crossing, ()), shrink_holds(steps, (0, 1))
    ([True, False, False, False, False, False], True, False)
''',
    "D2": r'''
    >>> from longernearer.steadiness import loose_holds, loose_program, steady_error, triples
    >>> sway = (("jump", 3, 2, 5), ("jump", 3, 2, 4), ("fill", 4), ("label",))
    >>> calm = (("jump", 3, 2, 6),) + sway[1:]
    >>> triples(sway), steady_error(sway), triples(calm), steady_error(calm)
    (((1, 2, 0),), (1, 2, 0), (), None)
    >>> level = (("jump", 4, 2, 5), ("fill", 4), ("jump", 4, 2, 4), ("fill", 4), ("label",))
    >>> triples(level), triples(level[:1] + (("fill", 2),) + level[2:]), triples((("jump", 4, 1, 4), ("jump", 4, 1, 2), ("fill", 2), ("fill", 8), ("label",)))
    ((), ((2, 3, 0),), ((1, 2, 0), (1, 3, 0)))
    >>> triples((("jump", 1, 1, 2), ("label",), ("fill", 2), ("jump", 1, 2, 4))), triples((("jump", 2, 1, 2), ("fill", 8), ("label",), ("fill", 2), ("jump", 2, 2, 4)))
    (((3, 2, 0),), ())
''',
    "D3": r'''
    >>> shown = (sway, (0, 0, 1, 0, 0), (99, 3))
    >>> [loose_holds(sway, value) for value in ((shown, (0,), (1,)), (shown, (1,), (0,)), (shown, (0,), (0, 1)), ((sway, (0, 0, 1, 0, 0), (99, 4)), (0,), (1,)), [shown, (0,), (1,)], None)]
    [True, True, False, False, False, False]
    >>> loose_holds(sway, loose_program(sway)), loose_holds(calm, (shown, (0,), (1,)))
    (True, False)
    >>> loose_program(calm)
    raises Steady()
''',
    "D4": r'''
    >>> from longernearer.parting import parted, parted_holds
    >>> split = (sway, (0, 0, 1, 0, 0), (5, 3))
    >>> [parted_holds(sway, value) for value in ((split, (0,), (1, 0)), (split, (1, 0), (0,)), (split, (0,), (0,)), (split, (0, 1), (1, 0)), (split, (0,), (1,)), (shown, (0,), (1, 0)), None)]
    [True, True, False, False, False, False, False]
    >>> parted_holds(sway, parted(sway))
    True
    >>> parted(level)
    raises Steady()
''',
    "E2": r'''
    >>> from longernearer.tying import tied_pairs, tight_holds, tight_program
    >>> knot = (("label",), ("jump", 3, 2, 5), ("jump", 0, 2, 5), ("label",))
    >>> tied_pairs(knot), tied_pairs((("jump", 3, 2, 5), ("jump", 2, 2, 5), ("label",), ("label",))), tied_pairs((("label",), ("jump", 2, 2, 5), ("label",), ("jump", 0, 2, 4)))
    (((1, 2),), (), ())
    >>> tied_pairs((("label",), ("jump", 4, 1, 2), ("jump", 4, 1, 3), ("jump", 0, 1, 4), ("label",), ("jump", 0, 1, 2)))
    ((1, 3), (2, 3))
''',
    "E3": r'''
    >>> held = (knot, (0, 0, 0, 0, 0), (2, 4))
    >>> [tight_holds(knot, value) for value in ((held, (1, 2)), (held, ()), (held, (1,)), ((knot, (0, 0, 0, 0, 0), (2, 3)), (1, 2)), ((knot, (0, 0, 0, 0, 0), (2, 7)), (1, 2)), [held, (1, 2)], None)]
    [True, False, False, False, False, False, False]
    >>> tight_holds(knot, tight_program(knot))
    True
    >>> tight_program((("jump", 3, 2, 5), ("jump", 2, 2, 5), ("label",), ("label",)))
    raises Untied()
    >>> tight_program((("jump", 3, 2, 5), ("jump", 3, 2, 4), ("fill", 4), ("label",)))
    raises Loose((1, 2, 0))
''',
    "F3": r'''
    >>> from longernearer.changing import change_lengths, changes, hangs_on, sure_part
    >>> from longernearer.laying import way_of
    >>> twins = (("jump", 3, 2, 5), ("jump", 3, 2, 5), ("fill", 2), ("label",))
    >>> changes(twins, 1, 0), changes(twins, 0, 1)
    ((2, 4), (-1, 1))
    >>> apart = (("jump", 1, 2, 9), ("label",), ("fill", 2), ("jump", 5, 2, 3), ("fill", 8), ("label",))
    >>> changes(apart, 0, 3), changes(apart, 3, 0)
    ((-6, 0, 2), (0,))
    >>> back, ahead = (("jump", 1, 2, 5), ("label",), ("fill", 4), ("jump", 1, 2, 4)), (("jump", 2, 2, 5), ("fill", 4), ("label",), ("jump", 2, 2, 4))
    >>> changes(back, 0, 3), changes(ahead, 0, 3), changes((("jump", 1, 2, 9), ("label",), ("jump", 1, 2, 4)), 0, 2)
    ((-3, 1), (0,), (0,))
    >>> nearer, farther = change_lengths(twins, 0, 1, -1), change_lengths(apart, 0, 3, 2)
    >>> way_of(twins, nearer, (0,), 1) - way_of(twins, nearer, (), 1), way_of(apart, farther, (0,), 3) - way_of(apart, farther, (), 3)
    (-1, 2)
    >>> way_of(twins, (0, 1, 0, 0, 0), (), 1), way_of(twins, (0, 1, 0, 0, 0), (0,), 1)
    (1, 0)
    >>> change_lengths(twins, 0, 1, 0)
    raises Unfit()
    >>> change_lengths(apart, 3, 0, False)
    raises Unfit()
''',
    "F4": r'''
    >>> hangs_on(twins, 0), hangs_on(twins, 1), hangs_on(apart, 0), hangs_on(apart, 3), hangs_on(ahead, 3)
    ((1,), (0,), (), (0,), ())
    >>> even = (("jump", 3, 2, 4), ("jump", 3, 2, 6), ("fill", 2), ("label",))
    >>> sure_part(twins), sure_part(apart), sure_part(ahead), sure_part(even), hangs_on(even, 0), hangs_on(even, 1)
    ((), (0,), (0, 3), (0, 1), (1,), ())
''',
    "G2": r'''
    >>> from longernearer.choosing import fewest_bytes, least_choice, least_holds, serving
    >>> near = (("jump", 1, 2, 5), ("label",), ("jump", 4, 2, 5), ("fill", 4), ("label",))
    >>> calm = (("jump", 1, 2, 6), ("label",), ("jump", 4, 2, 6), ("fill", 4), ("label",))
    >>> lengths = (0, 0, 0, 1, 0, 0)
    >>> [serving((near, lengths, reaches)) for reaches in ((0, 3), (0, 4))], serving((calm, lengths, (0, 3))), serving(((("label",),), (7, 7), ()))
    ([((0,), (0, 2), (2,)), ((), (0,), (0, 2), (2,))], ((0, 2), (2,)), ((),))
''',
    "G3": r'''
    >>> least_choice((calm, lengths, (0, 3))), least_choice((near, lengths, (0, 4))), least_choice(((("label",),), (7, 7), ()))
    ((2,), (), ())
    >>> ring = (("jump", 3, 2, 5), ("label",), ("jump", 1, 2, 5), ("label",))
    >>> [least_choice((ring, (0,) * 5, reaches)) for reaches in ((2, 2), (1, 2), (2, 1))]
    [(), (0,), (0, 2)]
    >>> [least_holds((near, lengths, (0, 3)), value) for value in (((0,), (2,)), ((2,), (0,)), ((0,), (0, 2)), ((), (2,)), [(0,), (2,)], ((0,), (2,), ()), ((False,), (2,)), None)]
    [True, True, False, False, False, False, False, False]
    >>> three = (("jump", 4, 1, 4), ("jump", 4, 1, 2), ("fill", 2), ("jump", 5, 1, 4), ("label",), ("label",))
    >>> wide = (three, (3, 2, 0, 0, 0, 1, 0), (8, 4, 4))
    >>> serving(wide), least_choice(wide), least_holds(wide, ((0, 3), (1, 3)))
    (((), (0,), (0, 1), (0, 1, 3), (0, 3), (1,), (1, 3)), (), False)
''',
    "G4": r'''
    >>> fewest_bytes((calm, lengths, (0, 3))), fewest_bytes((near, lengths, (0, 3)))[0], fewest_bytes((near, lengths, (0, 3)))[1] in ((0,), (2,)), fewest_bytes((near, lengths, (0, 4)))[0], fewest_bytes(((("label",),), (7, 7), ()))
    ((12, (2,)), 8, True, 8, (14, ()))
''',
    "H2": r'''
    >>> from longernearer.lengthening import turning
    >>> solo, pair = (("jump", 2, 2, 5), ("fill", 4), ("label",)), (("jump", 3, 2, 4), ("jump", 3, 2, 6), ("fill", 2), ("label",))
    >>> short = (solo, (0, 0, 0, 0), (10,))
    >>> [turning(short, place, 0) for place in range(4)], turning((solo, (0, 0, 0, 0), (1,)), 0, 0)
    ([None, 3, 3, None], 0)
    >>> both = (pair, (0, 0, 0, 0, 0), (13, 6))
    >>> [turning(both, place, 0) for place in range(5)], [turning(both, place, 1) for place in range(5)]
    ([None, 6, 4, 4, None], [None, None, 4, 4, None])
    >>> turning((solo, (0, 0, 0, 0), (10 ** 9,)), 1, 0), turning((pair, (0, 0, 10 ** 9, 0, 0), (13, 10 ** 9)), 2, 1)
    (250000000, 1)
    >>> turning(((("label",), ("jump", 0, 2, 3)), (7, 0, 0), (5,)), 1, 1), turning(((("label",), ("jump", 0, 2, 3)), (7, 0, 0), (5,)), 0, 1)
    (4, None)
    >>> turning(((("jump", 3, 2, 5), ("jump", 3, 2, 5), ("fill", 2), ("label",)), (0, 0, 0, 0, 0), (9, 9)), 0, 0)
    raises Loose((1, 2, 0))
''',
    "I1": r'''
    >>> from longernearer.mending import book_loose, mended
    >>> near = (("jump", 1, 2, 5), ("label",), ("jump", 4, 2, 5), ("fill", 4), ("label",))
    >>> calm = (("jump", 1, 2, 6), ("label",), ("jump", 4, 2, 6), ("fill", 4), ("label",))
    >>> mended(near), mended(calm), mended((("label",),))
    ((6, 5), (6, 6), ())
    >>> deep = (("jump", 1, 2, 5), ("label",), ("jump", 5, 2, 5), ("fill", 4), ("fill", 8), ("label",))
    >>> turned = (("jump", 1, 2, 5), ("label",), ("jump", 5, 2, 5), ("fill", 8), ("fill", 4), ("label",))
    >>> back, far = (("jump", 1, 2, 3), ("label",), ("fill", 16), ("jump", 1, 1, 4)), (("jump", 1, 2, 999), ("label",), ("fill", 64), ("jump", 1, 2, 3))
    >>> mended(deep), mended(turned), mended(back), mended(far)
    ((10, 5), (10, 5), (18, 4), (1026, 3))
''',
    "I3": r'''
    >>> book_loose((4, 8), (2, 4)), book_loose((6,), (2,)), book_loose((64, 128), (2, 4, 8, 16, 32, 64)), book_loose((998,), (2,))
    (None, None, None, None)
    >>> from longernearer.steadiness import steady_error
    >>> loose = book_loose((4, 6), (2, 4))
    >>> steady_error(loose) is None, [item[3] - item[2] in (4, 6) for item in loose if item[0] == "jump"].count(False), [item[1] in (2, 4) for item in loose if item[0] == "fill"].count(False)
    (False, 0, 0)
    >>> steady_error(book_loose((997,), (64,))) is None, book_loose((1,), (2,)) is None
    (False, False)
''',
    "J2": r'''
    >>> from longernearer.desks import Desk, desk_behind
    >>> turn = (("jump", 4, 1, 2), ("jump", 3, 1, 3), ("fill", 4), ("label",), ("label",))
    >>> code = (turn, (0, 0, 1, 0, 0, 0), (9, 7))
    >>> d = Desk(code)
    >>> [d.version, d.lay(2, 1), d.size(0, 1, 5), d.fill(2, 8), d.program[0][:3], d.program[1:]]
    [0, 1, 2, 3, (('jump', 4, 1, 5), ('jump', 3, 1, 3), ('fill', 8)), ((0, 0, 1, 0, 0, 0), (9, 7))]
    >>> [d.least(), d.reach(1, 5), d.grown_in((0, 1)), d.undo(), d.at(0) == code, d.redo(), d.log]
    [(), 4, (1,), 3, True, 4, (('lay', 2, 1), ('size', 0, 1, 5), ('fill', 2, 8), ('reach', 1, 5))]
    >>> d.lay(6, 0)
    raises Unfit()
    >>> d.fill(3, 4)
    raises Unfit()
    >>> d.at(True)
    raises NoVersion(True)
    >>> d.redo()
    raises NothingToRedo()
''',
    "J3": r'''
    >>> desk_behind(code, d.log) == d, desk_behind(code, d.log).version, d.copy() == d, d == code
    (True, 4, True, False)
    >>> desk_behind(code, (("lay", 2, 1), ("lay", 2)))
    raises BadLog(1)
    >>> desk_behind(code, [])
    raises BadLog(0)
''',
}


def told(source, names):
    """Return what a prompt would show of source, and "raises .." with the error's fields if it raises."""
    try:
        code = compile(source, "example", "eval")
    except SyntaxError:
        exec(source, names)
        return ""
    try:
        value = eval(code, names)
        return "" if value is None else repr(value) + "\n"
    except LayError as error:
        fields = ", ".join(map(repr, vars(error).values()))
        return f"raises {type(error).__name__}({fields})\n"


class ExamplesTest(unittest.TestCase):

    def assert_examples(self, text, names):
        examples = doctest.DocTestParser().get_examples(text)
        self.assertEqual(len(examples), text.count(">>> "))
        for example in examples:
            with self.subTest(example.source):
                self.assertEqual(told(example.source, names), example.want)

    def test_document(self):
        names = {}
        for text in EXAMPLES.values():
            self.assert_examples(text, names)

    def test_readme(self):
        self.assert_examples(README.read_text(encoding="utf-8"), {})
