"""The examples of DOC.md, as they are written there; names stay set from one to the next."""

import doctest
import unittest

EXAMPLES = {
    "A5": r'''
    >>> from longernearer.skeletons import jumps_of, skeleton_error
    >>> turn, eight = (("jump", 4, 1, 2), ("jump", 3, 1, 3), ("fill", 4), ("label",), ("label",)), (("jump", 0, 1, 2),) * 8
    >>> [skeleton_error(value) for value in (turn, (("label",),), (("label",),) + eight, (("label",),) * 24)], jumps_of(turn), jumps_of((("fill", 64),))
    ([None, None, None, None], (0, 1), ())
    >>> [skeleton_error(value) for value in ((), (("label",),) * 25, list(turn), ("label",), (("label",), ["label"]), (("fill", 3),), (("fill", 128),), (("label", 1),))]
    ['form', 'form', 'form', ('item', 0), ('item', 1), ('item', 0), ('item', 0), ('item', 0)]
    >>> [skeleton_error((("label",), jump)) for jump in (("jump", 0, 2, 2), ("jump", 0, 0, 2), ("jump", 0, 1, 1000), ("jump", True, 1, 2), ("jump", 0, 1), ("jump", 1, 1, 2), ("jump", -1, 1, 2))]
    [('item', 1), ('item', 1), ('item', 1), ('item', 1), ('item', 1), ('goal', 1), ('goal', 1)]
    >>> skeleton_error((("label",),) + eight + (("jump", 0, 1, 2),)), skeleton_error((("jump", 9, 1, 2), ("fill", 5)))
    ('jumps', ('item', 1))
''',
    "A7": r'''
    >>> from longernearer.programs import choice_error, lengths_error, program_error, reaches_error
    >>> [lengths_error(turn, value) for value in ((0,) * 6, (0, 0, 10 ** 9, 0, 0, 7), (0,) * 5, [0] * 6, (0, 0, -1, 0, 0, None), (0, 0, 0, 0, 0, True))]
    [None, None, 'form', 'form', ('length', 2), ('length', 5)]
    >>> [reaches_error(turn, value) for value in ((9, 7), (0, 10 ** 9), (9,), (9, 10 ** 9 + 1), ("9", 7))], reaches_error((("label",),), ()), reaches_error((("label",), ("jump", 0, 1, 2)), (-1,))
    ([None, None, 'form', ('reach', 1), ('reach', 0)], None, ('reach', 0))
    >>> code = (turn, (0, 0, 1, 0, 0, 0), (9, 7))
    >>> [program_error(value) for value in (code, code[:2], list(code), ((), (0,), ()), (turn, (0,) * 5, (9,)), (turn, (0,) * 6, (9, -7)))]
    [None, 'form', 'form', ('skeleton', 'form'), ('lengths', 'form'), ('reaches', ('reach', 1))]
    >>> [choice_error(turn, value) for value in ((), (0,), (0, 1), [0], (0, 2), (1, 0), (1, 1), (True,), 0)]
    [None, None, None, 'form', ('jump', 1), ('order', 1), ('order', 1), ('jump', 0), 'form']
''',
}


class ExamplesTest(unittest.TestCase):

    def test_examples(self):
        names = {}
        for point, text in EXAMPLES.items():
            with self.subTest(point):
                told = []
                examples = doctest.DocTestParser().get_doctest(text, names, point, None, None)
                runner = doctest.DocTestRunner()
                results = runner.run(examples, out=told.append, clear_globs=False)
                # The parser copies the names that it is given.
                names.update(examples.globs)
                self.assertEqual(results.failed, 0, "".join(told))
                self.assertEqual(results.attempted, text.count(">>> "))
