"""Points 4.6 and 4.7: a shape that is edited, with undo and redo, and by how many swaps this is done."""

import unittest
from random import Random

from barstay.bars import bars_of
from barstay.editing import edited
from barstay.errors import BadEdit, BadHeight, BadShape, BadSimplex, DuplicateSimplex, LateFace, MissingFace
from barstay.errors import NothingToRedo, NothingToUndo
from barstay.history import History
from barstay.judging import is_right
from barstay.reducing import pairs_of
from barstay.shapes import grown, order_of
from tests.checks import Checks
from tests.samples import NAMED, NESTED, SIXTY, STRANGE, heights_for, shuffled
from tests.test_editing import NO_EDITS, NO_SEVERAL, any_single

SHAPE = [((0,), 0), ((1,), 0), ((2,), 0), ((0, 1), 1), ((1, 2), 2), ((0, 2), 3), ((0, 1, 2), 6)]


def swaps_for(shape, edit):
    """Return by how many places the simplex of a single edit moves, as point 4.7 says it."""
    word, simplex = edit[:2]
    before, after = order_of(shape), order_of(edited(shape, edit))
    if word == "add":
        return len(after) - 1 - after.index(simplex)
    if word == "take":
        return len(before) - 1 - before.index(simplex)
    return abs(after.index(simplex) - before.index(simplex))


def swaps_for_all(shape, edits):
    total = 0
    for edit in edits:
        total += swaps_for(shape, edit)
        shape = edited(shape, edit)
    return total


class HistoryChecks(Checks):

    def is_at(self, history, shape, counts=None):
        """Check that a history tells all that belongs to a shape."""
        order = order_of(shape)
        self.assertEqual(history.shape(), grown(shape))
        self.assertEqual(history.pairs(), pairs_of(order))
        self.assertTrue(is_right(order, history.chains()))
        self.assertIs(type(history.chains()), list)
        self.assertEqual(history.bars(), bars_of(shape))
        if counts is not None:
            self.assertEqual(history.counts(), counts)

    def refuses(self, history, kind, place, call, *given):
        def told():
            return history.shape(), history.pairs(), history.chains(), history.bars(), history.counts()
        before = told()
        self.raises(kind, place, call, *given)
        self.assertEqual(told(), before)


class TestHistory(HistoryChecks):

    def test_the_example(self):
        history = History(SHAPE)
        self.is_at(history, SHAPE, (0, 0, 0))
        self.assertEqual(history.bars(), [(0, 0, 1), (0, 0, 2), (0, 0, None), (1, 3, 6)])
        self.assertEqual(history.do(("height", (0, 2), 2)), 1)
        self.assertEqual(history.pairs(), [(0, None), (1, 3), (2, 4), (5, 6)])
        self.assertEqual(history.bars(), [(0, 0, 1), (0, 0, 2), (0, 0, None), (1, 2, 6)])
        self.assertEqual(history.undo(), 1)
        self.is_at(history, SHAPE, (0, 1, 2))

    def test_the_empty_shape(self):
        history = History([])
        self.is_at(history, [], (0, 0, 0))
        self.assertEqual(history.do(("add", (3,), 5)), 0)
        self.is_at(history, [((3,), 5)], (1, 0, 0))
        self.assertEqual(history.do(("take", (3,))), 0)
        self.is_at(history, [], (2, 0, 0))

    def test_items_in_any_sequence(self):
        self.is_at(History(SHAPE[::-1]), SHAPE, (0, 0, 0))
        for part in NAMED.values():
            shape = heights_for(shuffled(part, 8), 8)
            self.is_at(History(shape[::-1]), shape, (0, 0, 0))

    def test_what_check_shape_raises(self):
        sixty = [(simplex, len(simplex)) for simplex in SIXTY]
        self.is_at(History(sixty), sixty)
        self.raises(BadShape, None, History, sixty + [((0, 1, 2), 5)])
        for wrong in STRANGE + [NESTED]:
            self.raises(BadSimplex, 7, History, SHAPE + [wrong])
        self.raises(BadSimplex, 0, History, [((True,), 0)])
        self.raises(BadHeight, 1, History, [((0,), 0), ((1,), True)])
        self.raises(BadHeight, 0, History, [((0,), 1001)])
        self.raises(DuplicateSimplex, 7, History, SHAPE + [((0,), 0)])
        self.raises(MissingFace, 2, History, SHAPE[:2] + [((0, 2), 4)])
        self.raises(LateFace, 6, History, SHAPE[:6] + [((0, 1, 2), 2)])

    def test_the_list_that_was_handed_in(self):
        given = list(SHAPE)
        history = History(given)
        given.reverse()
        given.append(None)
        self.is_at(history, SHAPE)
        history.do(("take", (0, 1, 2)))
        self.assertEqual(given, SHAPE[::-1] + [None])
        self.is_at(history, SHAPE[:6])

    def test_new_lists(self):
        for shape in (SHAPE, [], heights_for(shuffled(NAMED["torus"], 2), 2)):
            history = History(shape)
            for call in (history.shape, history.pairs, history.chains, history.bars):
                self.gives_new_lists(call)
                call().clear()
            self.is_at(history, shape, (0, 0, 0))

    def test_two_histories_have_nothing_to_do_with_each_other(self):
        one, other = History(SHAPE), History(SHAPE)
        one.do(("take", (0, 1, 2)))
        self.is_at(other, SHAPE, (0, 0, 0))
        self.refuses(other, NothingToUndo, None, other.undo)


class TestUndoAndRedo(HistoryChecks):

    def test_nothing_to_undo_or_to_redo(self):
        history = History(SHAPE)
        self.refuses(history, NothingToUndo, None, history.undo)
        self.refuses(history, NothingToRedo, None, history.redo)
        history.do(("take", (0, 1, 2)))
        self.refuses(history, NothingToRedo, None, history.redo)
        history.undo()
        self.refuses(history, NothingToUndo, None, history.undo)
        history.redo()
        self.refuses(history, NothingToRedo, None, history.redo)

    def test_the_last_ones_first(self):
        shapes, history = [SHAPE], History(SHAPE)
        for edit in [("take", (0, 1, 2)), ("height", (0, 2), 9), ("add", (0, 1, 2), 9), ("all", ()),
                     ("all", (("height", (0, 1, 2), 20), ("height", (0, 2), 15), ("add", (5,), -3)))]:
            shapes.append(edited(shapes[-1], edit))
            history.do(edit)
        for _ in range(2):
            for done in reversed(range(5)):
                history.undo()
                self.is_at(history, shapes[done])
                self.assertEqual(history.counts()[:2], (done, 5 - done))
            for done in range(1, 6):
                history.redo()
                self.is_at(history, shapes[done])
                self.assertEqual(history.counts()[:2], (done, 5 - done))

    def test_a_new_edit_forgets_what_was_undone(self):
        history = History(SHAPE)
        history.do(("take", (0, 1, 2)))
        history.do(("take", (0, 2)))
        history.undo()
        history.undo()
        self.assertEqual(history.counts()[:2], (0, 2))
        history.do(("height", (0, 2), 5))
        self.assertEqual(history.counts()[:2], (1, 0))
        self.refuses(history, NothingToRedo, None, history.redo)
        history.undo()
        self.is_at(history, SHAPE)
        self.assertEqual(history.counts()[:2], (0, 1))
        history.redo()
        self.is_at(history, edited(SHAPE, ("height", (0, 2), 5)))

    def test_the_empty_edit_counts_too(self):
        history = History(SHAPE)
        history.do(("take", (0, 1, 2)))
        history.undo()
        self.assertEqual(history.do(("all", ())), 0)
        self.assertEqual(history.counts(), (1, 0, 0))
        self.refuses(history, NothingToRedo, None, history.redo)
        self.assertEqual(history.do(("height", (0, 1), 1)), 0)
        self.assertEqual(history.counts(), (2, 0, 0))
        self.assertEqual((history.undo(), history.undo(), history.counts()), (0, 0, (0, 2, 0)))

    def test_bad_edits(self):
        history = History(SHAPE)
        history.do(("take", (0, 1, 2)))
        history.undo()
        good = ("height", (0, 1, 2), 6)
        never = [("height", (3,), 0), ("height", (0, 1, 2), 2), ("add", (0,), 0), ("take", (0,)), ("add", (0, 3), 9)]
        for bad in NO_EDITS + NO_SEVERAL + never:
            self.refuses(history, BadEdit, None, history.do, bad)
            for at in (0, 2, 19):
                self.refuses(history, BadEdit, at, history.do, ("all", (good,) * at + (bad,)))
        # The first of these could be done, but nothing of it is.
        self.refuses(history, BadEdit, 1, history.do, ("all", (("take", (0, 1, 2)), ("take", (0,)))))
        self.refuses(history, BadEdit, 3, history.do, ("all", (("add", (4,), 0), ("add", (5,), 1), good, ("all", ()))))
        self.is_at(history, SHAPE, (0, 1, 0))
        self.assertEqual(history.redo(), 0)
        self.is_at(history, SHAPE[:6], (1, 0, 0))

    def test_a_sixty_first_simplex(self):
        shape = [(simplex, len(simplex)) for simplex in SIXTY]
        history = History(shape)
        self.refuses(history, BadEdit, None, history.do, ("add", (0, 1, 2), 9))
        self.assertEqual(history.do(("all", (("take", SIXTY[12]), ("add", SIXTY[12], 2)))), 47 + 47)
        self.is_at(history, shape, (1, 0, 94))


class TestSwaps(HistoryChecks):

    def moves(self, shape, edit, swaps):
        """Check the number of swaps of an edit, of its undo and of its redo."""
        history = History(shape)
        self.assertEqual(history.do(edit), swaps, edit)
        self.is_at(history, edited(shape, edit), (1, 0, swaps))
        self.assertEqual(history.undo(), swaps)
        self.is_at(history, shape, (0, 1, 2 * swaps))
        self.assertEqual(history.redo(), swaps)
        self.is_at(history, edited(shape, edit), (1, 0, 3 * swaps))

    def test_a_height(self):
        self.moves(SHAPE, ("height", (0, 1), 1), 0)
        self.moves(SHAPE, ("height", (0, 2), 6), 0)
        self.moves(SHAPE, ("height", (0, 2), 2), 1)
        self.moves(SHAPE, ("height", (0, 2), 1), 1)
        self.moves(SHAPE, ("height", (0, 2), 0), 2)
        self.moves(SHAPE, ("height", (0, 1), 2), 0)
        self.moves(SHAPE, ("height", (0, 1), 3), 1)
        self.moves(SHAPE, ("height", (0, 1), 6), 2)
        self.moves(SHAPE, ("height", (2,), -1), 2)
        self.moves(SHAPE, ("height", (0,), 1), 2)

    def test_add(self):
        self.moves(SHAPE, ("add", (3,), -1), 7)
        self.moves(SHAPE, ("add", (3,), 0), 4)
        self.moves(SHAPE, ("add", (3,), 2), 3)
        self.moves(SHAPE, ("add", (3,), 6), 1)
        self.moves(SHAPE, ("add", (3,), 7), 0)

    def test_take(self):
        self.moves(SHAPE, ("take", (0, 1, 2)), 0)
        self.moves(SHAPE[:6], ("take", (0, 2)), 0)
        self.moves(SHAPE[:6], ("take", (0, 1)), 2)
        self.moves([((3,), -2)] + SHAPE, ("take", (3,)), 7)

    def test_several_in_one(self):
        self.moves(SHAPE, ("all", ()), 0)
        self.moves(SHAPE, ("all", (("height", (0, 2), 0), ("height", (0, 2), 3))), 4)
        self.moves(SHAPE, ("all", (("add", (3,), -1), ("take", (3,)))), 14)
        self.moves(SHAPE, ("all", (("add", (3,), 0), ("add", (0, 3), 0), ("height", (3,), -5), ("take", (0, 3)))),
                   4 + 4 + 3 + 4)

    def test_counts_behind_an_error(self):
        history = History(SHAPE)
        history.do(("add", (3,), -1))
        history.do(("height", (0, 2), 0))
        history.undo()
        self.assertEqual(history.counts(), (1, 1, 11))
        self.refuses(history, BadEdit, 1, history.do, ("all", (("take", (3,)), None)))
        self.refuses(history, BadEdit, None, history.do, ("take", (0,)))
        self.assertEqual(history.redo(), 2)
        self.refuses(history, NothingToRedo, None, history.redo)
        self.assertEqual(history.counts(), (2, 0, 13))
        self.assertIs(type(history.counts()), tuple)

    def test_rows_of_any_edits(self):
        for name, part in NAMED.items():
            source = Random(name)
            shape = grown(heights_for(shuffled(part, 6), 6))
            history, shapes, edits, undone, swaps = History(shape), [shape], [], 0, 0
            for _ in range(40):
                done = len(edits)
                if source.random() < 0.6:
                    edits.append(self.any_edit(shapes[-1], source))
                    expected = self.swaps_of(shapes[-1], edits[-1])
                    shapes.append(edited(shapes[-1], edits[-1]))
                    self.assertEqual(history.do(edits[-1]), expected)
                    undone, swaps = 0, swaps + expected
                    self.is_at(history, shapes[-1], (done + 1, 0, swaps))
                elif edits:
                    expected = self.swaps_of(shapes[-2], edits.pop())
                    self.assertEqual(history.undo(), expected)
                    self.is_at(history, shapes[-2], (done - 1, undone + 1, swaps + expected))
                    self.assertEqual(history.redo(), expected)
                    self.is_at(history, shapes.pop(), (done, undone, swaps + 2 * expected))
                    self.assertEqual(history.undo(), expected)
                    undone, swaps = undone + 1, swaps + 3 * expected

    def any_edit(self, shape, source):
        if source.random() < 0.5:
            return any_single(shape, source)
        edits = []
        for _ in range(source.randrange(6)):
            edits.append(any_single(shape, source))
            shape = edited(shape, edits[-1])
        return ("all", tuple(edits))

    def swaps_of(self, shape, edit):
        return swaps_for_all(shape, edit[1] if edit[0] == "all" else [edit])


if __name__ == "__main__":
    unittest.main()
