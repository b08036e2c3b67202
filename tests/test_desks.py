"""Desk, desk_behind: [A3], [J1] to [J4]."""

import inspect
import itertools
import random
import unittest

from longernearer.choosing import least_choice
from longernearer.desks import Desk, desk_behind
from longernearer.errors import (
    BadLog, BadProgram, LayError, NoLeast, NothingToRedo, NothingToUndo, NoVersion, TooManyEdits, Unfit,
)
from longernearer.growing import grown
from longernearer.programs import program_error
from tests.changed import OTHERS, changed, of_all_kinds
from tests.desking import BARE, CODE, FILLS, TURN, WRONG, PlainDesk, drawn_edit, made, state
from tests.looks import AMONG, is_paper, least_in, quick_programs, small_programs
from tests.samples import LABEL, MOST, jumps_in
from tests.telling import TellingCase, exact

EDITS = (("lay", 2, 1), ("size", 0, 1, 5), ("fill", 2, 8), ("reach", 1, 5))
ALIKE = ("lay", 2, 1)


def called(desk, edit, by_name):
    """Do an edit by the method that it is of."""
    method = getattr(desk, edit[0])
    if by_name:
        return method(**dict(zip(inspect.signature(method).parameters, edit[1:])))
    return method(*edit[1:])


def with_edits(program, edits):
    desk = Desk(program)
    for edit in edits:
        called(desk, edit, False)
    return desk


class DeskCase(TellingCase):

    def assert_refused(self, desk, error, call, *given):
        """Look at a call that raises just this error, with these fields, and leaves the desk as it was."""
        before = exact((state(desk), given))
        with self.assertRaises(LayError) as caught:
            call(*given)
        self.assertIs(type(caught.exception), error)
        self.assertEqual(exact((state(desk), given)), before)
        return vars(caught.exception)

    def assert_like(self, desk, plain):
        self.assertEqual(exact(state(desk)), exact(plain.state()))
        self.assertEqual(exact(desk.program), exact(plain.programs()[-1]))


class EditsTest(DeskCase):

    def test_drawn_edits(self):
        source = random.Random(71)
        counts = dict.fromkeys(("done", "Unfit", "undo", "redo", "nothing", "copies"), 0)
        for program in [CODE, BARE, FILLS] + small_programs(72)[::4] + quick_programs(73, 6, 24, 8):
            desk, plain = Desk(program), PlainDesk(program)
            for _ in range(30):
                counts[self.assert_step(source, desk, plain)] += 1
                self.assert_like(desk, plain)
                if source.random() < 0.1:
                    counts["copies"] += 1
                    left, desk = desk, desk.copy()
                    before = exact(state(left))
                    self.assert_step(source, desk, plain)
                    self.assertEqual(exact(state(left)), before)
                    self.assert_like(desk, plain)
        self.assertGreater(min(counts.values()), 50)

    def assert_step(self, source, desk, plain):
        """Do something drawn on both; tell what."""
        kind = source.random()
        if kind < 0.2:
            return self.assert_back(desk, plain)
        if kind < 0.35:
            return self.assert_again(desk, plain)
        edit = drawn_edit(source, plain.programs()[-1])
        refusal = plain.refusal(edit)
        if refusal is not None:
            for by_name in (False, True):
                self.assertEqual(self.assert_refused(desk, Unfit, called, desk, edit, by_name), {})
            return refusal
        plain.do(edit)
        self.assertEqual(called(desk, edit, source.random() < 0.5), len(plain.stand))
        return "done"

    def assert_back(self, desk, plain):
        if not plain.stand:
            self.assertEqual(self.assert_refused(desk, NothingToUndo, desk.undo), {})
            return "nothing"
        plain.gone.append(plain.stand.pop())
        self.assertEqual(exact(desk.undo()), exact(len(plain.stand)))
        return "undo"

    def assert_again(self, desk, plain):
        if not plain.gone:
            self.assertEqual(self.assert_refused(desk, NothingToRedo, desk.redo), {})
            return "nothing"
        plain.stand.append(plain.gone.pop())
        self.assertEqual(exact(desk.redo()), exact(len(plain.stand)))
        return "redo"

    def test_wrong_places_and_values(self):
        for program in (CODE, BARE, FILLS):
            items = len(program[0])
            places = WRONG + tuple(range(items + 3))
            edits = [(name, place, value) for name in ("lay", "reach", "fill") for place in places for value in (0, 2, 4, 64)]
            edits += [("size", place, 1, 2) for place in places]
            edits += [(name, place, value) for name in ("lay", "reach", "fill") for place in range(items + 1)
                      for value in WRONG + (0, 1, 3, 63, 128, MOST)]
            edits += [("size", place, *sizes) for place in range(items + 1) for sizes in itertools.chain(
                itertools.product(WRONG, (2, 999)), itertools.product((0, 1), WRONG), ((0, 2), (2, 2), (3, 2), (1, 1000), (998, 999)))]
            done = 0
            for edit in edits:
                desk, after = with_edits(program, [("lay", 0, 5)]), made((program[0], (5, *program[1][1:]), program[2]), edit)
                if after is None:
                    self.assert_refused(desk, Unfit, called, desk, edit, False)
                else:
                    done += 1
                    self.assertEqual(called(desk, edit, True), 2)
                    self.assertEqual((desk.program, desk.log), (after, (("lay", 0, 5), edit)))
            self.assertGreater(done, 5)

    def test_bools_are_no_integers(self):
        desk = with_edits(CODE, [ALIKE])
        for edit in (("lay", True, 1), ("lay", 0, True), ("lay", False, False), ("reach", True, 1), ("reach", False, 1),
                     ("reach", 0, True), ("size", False, 1, 2), ("size", 0, True, 2), ("size", 0, 1, True), ("fill", True, 2)):
            self.assert_refused(desk, Unfit, called, desk, edit, False)
            self.assert_refused(desk, Unfit, called, desk, edit, True)

    def test_an_edit_that_changes_nothing_is_one(self):
        desk = Desk(CODE)
        for version, edit in enumerate((ALIKE, ALIKE, ("reach", 0, 9), ("size", 1, 1, 3), ("fill", 2, 4)), start=1):
            self.assertEqual(called(desk, edit, False), version)
            self.assertEqual(desk.program, CODE)
        self.assertEqual(desk.log, (ALIKE, ALIKE, ("reach", 0, 9), ("size", 1, 1, 3), ("fill", 2, 4)))

    def test_an_edit_forgets_what_was_taken_back(self):
        desk = with_edits(CODE, EDITS)
        self.assertEqual([desk.undo(), desk.undo(), desk.redo(), desk.undo()], [3, 2, 3, 2])
        self.assertEqual(desk.lay(0, 3), 3)
        self.assertEqual(self.assert_refused(desk, NothingToRedo, desk.redo), {})
        self.assertEqual(desk.log, EDITS[:2] + (("lay", 0, 3),))
        self.assertEqual([desk.undo() for _ in range(3)], [2, 1, 0])
        self.assertEqual([desk.redo() for _ in range(3)], [1, 2, 3])

    def test_a_refused_edit_forgets_nothing(self):
        desk = with_edits(CODE, EDITS)
        desk.undo()
        for edit in (("lay", 6, 0), ("lay", 0, -1), ("reach", 2, 0), ("size", 0, 2, 2), ("fill", 2, 3), ("fill", 0, 2)):
            self.assert_refused(desk, Unfit, called, desk, edit, False)
        self.assertEqual((desk.redo(), desk.log), (4, EDITS))

    def test_forty_edits_and_one_more(self):
        for edit in EDITS:
            desk = Desk(CODE)
            self.assertEqual([called(desk, edit, False) for _ in range(40)], list(range(1, 41)))
            for more in EDITS:
                self.assertEqual(self.assert_refused(desk, TooManyEdits, called, desk, more, True), {})
            # What does not fit is told ahead of how many there are.
            for wrong in (("lay", 6, 0), ("lay", 0, None), ("reach", 3, 0), ("size", 0, 5, 1), ("fill", 2, 5)):
                self.assertEqual(self.assert_refused(desk, Unfit, called, desk, wrong, False), {})
            self.assertEqual(desk.undo(), 39)
            self.assertEqual(desk.redo(), 40)
            self.assert_refused(desk, TooManyEdits, called, desk, edit, False)
            self.assertEqual([desk.undo(), desk.undo(), called(desk, edit, False), called(desk, edit, False)], [39, 38, 39, 40])
            self.assert_refused(desk, TooManyEdits, called, desk, edit, False)
            self.assertEqual(desk.log, (edit,) * 40)


class DeskTest(DeskCase):

    def test_a_new_desk(self):
        for program in [CODE, BARE, FILLS] + small_programs(74)[::9]:
            for desk in (Desk(program), Desk(program=program)):
                self.assertEqual(exact((desk.program, desk.version, desk.log)), exact((program, 0, ())))
                self.assert_refused(desk, NothingToUndo, desk.undo)
                self.assert_refused(desk, NothingToRedo, desk.redo)

    def test_what_is_no_program(self):
        many = 0
        for program in (CODE, BARE, FILLS):
            for value in (*changed(program), *of_all_kinds(program), Desk(program), (Desk(program),) * 3, [Desk(program)],
                          (TURN, Desk(program), ()), ((Desk(program),), (0, 0), ()), (((Desk(program),),), (0, 0), ())):
                error = program_error(value)
                if error is not None:
                    many += 1
                    self.assert_refuses(Desk, BadProgram, {"error": error}, program=value)
                    self.assert_refuses(desk_behind, BadProgram, {"error": error}, program=value, log=())
                    # The program is looked at ahead of the log.
                    for log in (None, [], (None,), (("lay", 0, 0),)):
                        self.assert_refuses(desk_behind, BadProgram, {"error": error}, program=value, log=log)
        self.assertGreater(many, 1000)

    def test_what_is_told_can_only_be_read(self):
        desk = with_edits(CODE, EDITS)
        before = exact(state(desk))
        for name, value in (("program", BARE), ("version", 0), ("log", ())):
            with self.assertRaises(AttributeError):
                setattr(desk, name, value)
            with self.assertRaises(AttributeError):
                delattr(desk, name)
        self.assertEqual(exact(state(desk)), before)

    def test_at(self):
        desk = with_edits(CODE, EDITS + EDITS[:1])
        desk.undo()
        expected = PlainDesk(CODE)
        expected.stand = list(EDITS)
        for version, program in enumerate(expected.programs()):
            self.assert_tells(desk.at, program, value=version)
        for value in (5, 6, -1, True, False, None, "0", "", (), (0,), [0], {}, {0: 0}, 10 ** 399, Unfit(), Desk(CODE)):
            self.assert_refuses(desk.at, NoVersion, {"given": value}, value=value)
            self.assertIs(self.refused(desk.at, NoVersion, value=value)["given"], value)
        for value in of_all_kinds(EDITS):
            if type(value) is not int or not 0 <= value <= 4:
                self.assert_refuses(desk.at, NoVersion, {"given": value}, value=value)
        self.assert_refuses(Desk(CODE).at, NoVersion, {"given": False}, value=False)
        self.assertEqual((desk.program, desk.version, desk.log), (expected.programs()[-1], 4, EDITS))

    def test_least(self):
        without = 0
        programs = small_programs(75)[::2] + quick_programs(76, 12, 12, 5, growths=range(1, 6))
        for program in programs + [(skeleton, (1,) * 25, (20,) * 8) for skeleton in AMONG.values()]:
            desk = Desk(program)
            least = least_in(program)
            if least is None:
                without += 1
                self.assertTrue(is_paper(program, self.refused(desk.least, NoLeast)["paper"]))
                self.refused(least_choice, NoLeast, program=program)
            else:
                self.assert_tells(desk.least, least)
                self.assertEqual(least_choice(program), least)
        self.assertGreater(without, 3)

    def test_least_of_what_stands(self):
        desk = with_edits(CODE, EDITS[:3])
        self.assert_tells(desk.least, ())
        desk.reach(1, 5)
        self.assertTrue(is_paper(desk.program, self.assert_refused(desk, NoLeast, desk.least)["paper"]))
        desk.undo()
        self.assert_tells(desk.least, ())

    def test_grown_in(self):
        for program in [CODE, BARE, FILLS] + small_programs(77)[::3]:
            desk = Desk(program)
            for order in itertools.permutations(jumps_in(program[0])):
                self.assert_tells(desk.grown_in, grown(program, order), order=order)
        desk = with_edits(CODE, EDITS)
        self.assert_tells(desk.grown_in, (1,), order=(0, 1))
        desk.undo()
        self.assert_tells(desk.grown_in, (), order=(1, 0))

    def test_what_is_no_order(self):
        desk = with_edits(CODE, EDITS)
        for order in ((), (0,), (1,), (0, 0), (1, 1), (0, 1, 0), (0, 1, 2), (0, 2), (False, True), (0, True), (False, 1), [0, 1], "01",
                      {0: 0, 1: 1}, (0, "1"), ("0", 1), (0, None), ((0, 1),), (0, [1]), ([], {}), (-1, 0), (0, 10 ** 399),
                      (Unfit(), 0), (Desk(CODE), 0), *changed((0, 1)), *of_all_kinds((0, 1))):
            if exact(order) not in ("(0, 1)", "(1, 0)"):
                self.assert_refuses(desk.grown_in, Unfit, {}, order=order)
        for order in ((0,), [], None, (True,), ((),), {}, ""):
            self.assert_refuses(Desk(BARE).grown_in, Unfit, {}, order=order)
        self.assert_tells(Desk(BARE).grown_in, (), order=())

    def test_what_was_told_stays(self):
        source = random.Random(78)
        desk, kept = Desk(CODE), []
        for _ in range(60):
            told = (desk.program, desk.log, desk.version, [desk.at(version) for version in range(desk.version + 1)])
            kept.append((told, exact(told)))
            try:
                if source.random() < 0.5:
                    called(desk, drawn_edit(source, desk.program), False)
                else:
                    source.choice((desk.undo, desk.redo))()
            except LayError:
                pass
            for earlier, shown in kept:
                self.assertEqual(exact(earlier), shown)


class EqualTest(DeskCase):

    def assert_equal_desks(self, one, other, expected):
        for left, right in ((one, other), (other, one)):
            self.assertIs(left == right, expected)
            self.assertIs(left != right, not expected)

    def test_equal_programs_by_other_edits(self):
        one, other = with_edits(CODE, [ALIKE, ("lay", 0, 3)]), with_edits(CODE, [("lay", 0, 3)])
        self.assert_equal_desks(one, other, True)
        self.assert_equal_desks(one, Desk(one.program), True)
        self.assert_equal_desks(one, one, True)
        one.undo()
        self.assert_equal_desks(one, other, False)
        self.assert_equal_desks(one, Desk(CODE), True)
        other.undo()
        self.assert_equal_desks(one, other, True)

    def test_unlike_programs(self):
        desks = [Desk(program) for program in (CODE, BARE, FILLS, *small_programs(79)[::10])]
        desks += [with_edits(CODE, [edit]) for edit in EDITS[1:]]
        for one, other in itertools.combinations(desks, 2):
            self.assert_equal_desks(one, other, one.program == other.program)

    def test_nothing_else_is_equal(self):
        desk = Desk(CODE)
        for value in (CODE, list(CODE), (desk,), [desk], {"program": CODE}, TURN, "", *OTHERS, BadProgram("form"), PlainDesk(CODE)):
            self.assert_equal_desks(desk, value, False)


class CopyTest(DeskCase):

    def test_copies_go_on_by_themselves(self):
        desk = with_edits(CODE, EDITS)
        desk.undo()
        desk.undo()
        other = desk.copy()
        self.assertIs(type(other), Desk)
        self.assertIsNot(other, desk)
        self.assertEqual(exact(state(other)), exact(state(desk)))
        self.assertEqual([other.redo(), other.redo()], [3, 4])
        self.assertEqual((desk.version, desk.log), (2, EDITS[:2]))
        desk.lay(0, 9)
        self.assertEqual((other.version, other.log), (4, EDITS))
        self.assert_refused(desk, NothingToRedo, desk.redo)
        self.assertEqual([other.undo() for _ in range(4)], [3, 2, 1, 0])
        self.assertEqual(other.program, CODE)
        self.assertEqual(desk.log, EDITS[:2] + (("lay", 0, 9),))

    def test_copies_of_full_desks_and_new_ones(self):
        for desk in (Desk(BARE), with_edits(CODE, [ALIKE] * 40)):
            self.assertEqual(exact(state(desk.copy())), exact(state(desk)))
            self.assertEqual(exact(state(desk.copy().copy())), exact(state(desk)))
        self.assert_refused(desk, TooManyEdits, desk.copy().lay, 0, 0)


class DeskBehindTest(DeskCase):

    def assert_behind(self, program, log):
        """Look at a log all of which can be done."""
        plain = PlainDesk(program)
        plain.stand = list(log)
        before = exact((program, log))
        for desk in (desk_behind(program, log), desk_behind(program=program, log=log), desk_behind(program, log=log)):
            self.assertIs(type(desk), Desk)
            self.assert_like(desk, plain)
        self.assertEqual(exact((program, log)), before)
        return desk

    def assert_bad(self, place, program, log):
        self.assert_refuses(desk_behind, BadLog, {"place": place}, program=program, log=log)

    def test_logs_of_desks(self):
        source = random.Random(80)
        for program in [CODE, BARE, FILLS] + small_programs(81)[::6]:
            desk = Desk(program)
            for _ in range(25):
                edit = drawn_edit(source, desk.program)
                if made(desk.program, edit) is not None:
                    called(desk, edit, False)
                elif desk.version > 3:
                    desk.undo()
            other = self.assert_behind(program, desk.log)
            self.assertTrue(other == desk)
            self.assertEqual((other.version, other.log), (desk.version, desk.log))
            # Both go on by themselves.
            other.lay(0, MOST)
            self.assertNotEqual(other.version, desk.version)

    def test_no_edits(self):
        self.assert_behind(CODE, ())

    def test_what_is_no_log(self):
        for log in (None, True, 0, 1, "", "lay", [], list(EDITS), {}, {0: ALIKE}, Unfit(), Desk(CODE), [ALIKE]):
            self.assert_bad(0, CODE, log)

    def test_the_first_place_that_is_refused(self):
        for wrong in (None, True, 0, "", "lay", (), ("lay",), ("lay", 2), ("lay", 2, 1, 0), ["lay", 2, 1], ("lay", 6, 1), ("lay", -1, 1),
                      ("lay", True, 1), ("lay", 2, False), ("lay", 2, MOST + 1), ("lay", "2", 1), ("lay", [], 1), ("lay", {}, 1),
                      ("Lay", 2, 1), ("laying", 2, 1), ("", 2, 1), (None, 2, 1), (["lay"], 2, 1), ({}, 2, 1), (("lay",), 2, 1), (2, 1, "lay"),
                      ("reach", 2, 1), ("reach", 5, 1), ("reach", 0, -1), ("reach", 0), ("reach", 0, 1, 2), ("reach", False, 1),
                      ("size", 0, 1), ("size", 0, 1, 2, 3), ("size", 2, 1, 2), ("size", 0, 2, 2), ("size", 0, 0, 1), ("size", 0, 1, 1000),
                      ("size", 0, (1, 2)), ("fill", 2, 3), ("fill", 2, True), ("fill", 0, 4), ("fill", 2), ("fill", 2, 4, 4), ("fill", 5, 4),
                      ("undo",), ("redo",), ("copy",), ("at", 0), ("least",), ("grown_in", (0, 1)), ("program", 2, 1), Unfit(), Desk(CODE),
                      (ALIKE,), (Desk(CODE), 2, 1), ("lay", Desk(CODE), Desk(CODE))):
            for at in range(5):
                log = EDITS[:at] + (wrong,) + EDITS[at:]
                self.assert_bad(at, CODE, log)
                self.assert_bad(at, CODE, log + (None,))

    def test_edits_that_were_changed(self):
        done = 0
        for edit in EDITS:
            for value in changed(edit):
                if type(value) is tuple and value and type(value[0]) is str and len(value) == (4 if value[0] == "size" else 3) \
                        and made(CODE, value) is not None:
                    done += 1
                    self.assert_behind(CODE, (value, ALIKE))
                else:
                    self.assert_bad(0, CODE, (value, ALIKE))
        self.assertGreater(done, 10)

    def test_each_edit_is_looked_at_behind_those_ahead_of_it(self):
        self.assert_behind(CODE, (("size", 0, 1, 9), ("size", 0, 8, 9)))
        self.assertEqual(desk_behind(CODE, (("size", 0, 1, 9), ("size", 0, 8, 9))).at(1)[0][0], ("jump", 4, 1, 9))

    def test_forty_edits_and_one_more(self):
        self.assert_behind(CODE, (ALIKE,) * 40)
        self.assert_bad(40, CODE, (ALIKE,) * 41)
        self.assert_bad(40, CODE, EDITS * 11)
        self.assert_bad(40, CODE, (ALIKE,) * 40 + (None,))
        self.assert_bad(39, CODE, (ALIKE,) * 39 + (("lay", 2),) + (ALIKE,) * 60)


class WholeTest(unittest.TestCase):

    def test_values_that_were_told_are_handed_in_again(self):
        desk = Desk(CODE)
        try:
            Desk(desk)
        except BadProgram as error:
            self.assertEqual(error.error, "form")
            self.assertRaises(BadProgram, Desk, error)
            self.assertRaises(BadLog, desk_behind, CODE, error)
        self.assertEqual(Desk(desk.program).program, CODE)
        self.assertEqual(Desk((LABEL * 0 + TURN, *CODE[1:])), desk)
