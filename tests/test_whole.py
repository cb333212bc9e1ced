"""The whole document: its examples, that arguments stay as they are, and that each list that is returned is new."""

import doctest
import unittest
from copy import deepcopy
from importlib import import_module

from barstay.errors import BarError
from tests.samples import EIGHT, RING, heights_for, shuffled
from tests.test_files import INTERFACE, METHODS

# The examples as they stand in the document, from the first one to the last one.
EXAMPLES = """
>>> from barstay.bars import bars_of
>>> from barstay.closest import closest
>>> shape = [((0,), 0), ((1,), 0), ((2,), 0), ((0, 1), 1), ((1, 2), 2), ((0, 2), 3), ((0, 1, 2), 6)]
>>> bars_of(shape)
[(0, 0, 1), (0, 0, 2), (0, 0, None), (1, 3, 6)]
>>> closest([(0, 0, None), (1, 3, 6)], [(0, 0, None), (1, 4, 6)])[:2]
('near', 2)

>>> from barstay.shapes import cofaces_of, faces_of, grown
>>> faces_of((2, 5, 7))
[(2, 5), (2, 7), (5, 7)]
>>> grown([((0, 1), 3), ((1,), 3), ((0,), 2)])
[((0,), 2), ((1,), 3), ((0, 1), 3)]
>>> cofaces_of([((0,), 2), ((1,), 3), ((0, 1), 3)], (0,))
[(0, 1)]

>>> from barstay.written import format_bars, parse_shape
>>> parse_shape("0 at 2\\n1 at 3\\n0 1 at 3")
[((0,), 2), ((1,), 3), ((0, 1), 3)]
>>> format_bars([(0, -2, 5), (1, 3, None)])
'0 -2 5\\n1 3 -'

>>> from barstay.reducing import filling, pairs_of, reduced
>>> order = [(0,), (1,), (2,), (0, 1), (1, 2), (0, 2), (0, 1, 2)]
>>> reduced(order)
[(0,), (1,), (2,), (3,), (3, 4), (3, 4, 5), (6,)]
>>> pairs_of(order)
[(0, None), (1, 3), (2, 4), (5, 6)]
>>> filling(order, (3, 4, 5)), filling(order, (1, 2)), filling(order, (1,))
((6,), (4,), None)

>>> from barstay.judging import fault, is_right, shows_pairs
>>> order = [(0,), (1,), (2,), (0, 1), (1, 2)]
>>> fault(order, [(0,), (1,), (2,), (3,), (4,)]), fault(order, [(0,), (1,), (0, 2), (3,), (3,)])
(None, ('end', 4))
>>> shows_pairs(order, [(0,), (0, 1), (1, 2), (3,), (3, 4)], [(0, None), (1, 3), (2, 4)])
True
"""
SHAPE = [((0,), 0), ((1,), 0), ((2,), 0), ((0, 1), 1), ((1, 2), 2), ((0, 2), 3), ((0, 1, 2), 6)]
OTHER = heights_for(shuffled(RING, 2), 2)
LATE = [((0,), 5), ((1,), 0), ((0, 1), 3)]
ORDER = shuffled(EIGHT, 1)
CHAINS = [(0,), (1,), (2,), (3,), (3, 4), (3, 4, 5), (6,)]
PAIRS = [(0, None), (1, 3), (2, 4), (5, 6)]
ROWS = [(0, 1), (), (1, 2), (0, 2), (4,), (0, 1)]
BARS = [(0, 0, 1), (0, 0, 2), (0, 0, None), (1, 3, 6)]
LESS = [(1, 4, 6), (0, 1, None)]
EDIT = ("all", (("take", (0, 1, 2)), ("height", (0, 2), 9), ("add", (3,), -1)))
# For each function of the interface the arguments of some calls of it, also of such that raise an error.
CALLS = {
    "shapes.is_simplex": [([0, 1],), ((0, [1]),), ((0, 1),)],
    "shapes.is_bar": [([0, 1, 2],), ((0, 1, [2]),), ((0, 1, 2),)],
    "shapes.dimension_of": [((0, 1),)],
    "shapes.faces_of": [((0, 1, 2),), ((0, 1),), ((0,),)],
    "shapes.check_shape": [(SHAPE,), (SHAPE[::-1],), (LATE,), ([[(0,), 0]],), ([],)],
    "shapes.grown": [(SHAPE[::-1],), (SHAPE,), ([],)],
    "shapes.order_of": [(SHAPE[::-1],), ([],)],
    "shapes.height_of": [(SHAPE, (0, 2)), (SHAPE, (3,))],
    "shapes.cofaces_of": [(SHAPE[::-1], (0,)), (SHAPE, (0, 1, 2)), (SHAPE, (3,))],
    "shapes.check_bars": [(BARS,), (BARS + [[0, 0, 1]],)],
    "shapes.sorted_bars": [(BARS[::-1],), (BARS,), ([],)],
    "levels.heights_of": [(SHAPE[::-1],), ([],)],
    "levels.shape_at": [(SHAPE[::-1], 2), (SHAPE, 6), (SHAPE, -1)],
    "levels.counts_of": [(SHAPE[::-1],)],
    "levels.euler_of": [(SHAPE[::-1],)],
    "levels.euler_steps": [(SHAPE[::-1],), ([],)],
    "levels.lowest_above": [(SHAPE[::-1], [(1,), (0,)]), (SHAPE, [])],
    "written.format_shape": [(SHAPE[::-1],)],
    "written.format_bars": [(BARS[::-1],)],
    "written.parse_shape": [("0 at 2\n1 at 3\n0 1 at 3",), ("",), ("0",)],
    "written.parse_bars": [("0 -2 5\n1 3 -",), ("",), ("0",)],
    "chains.added": [((0, 1), (1, 2))],
    "chains.summed": [([(0, 1), (1, 2)],), ([],)],
    "chains.last_of": [((0, 1),)],
    "chains.boundary": [(RING, (3, 4))],
    "chains.is_cycle": [(RING, (3, 4))],
    "chains.is_chain": [(RING, (3, 4)), (RING, [3, 4]), (RING, ([3], 4))],
    "reducing.reduced": [(RING,), (ORDER,), ([],)],
    "reducing.pairs_of": [(RING,), (ORDER,), ([],)],
    "reducing.filling": [(RING, (3, 4, 5)), (RING, (1,))],
    "judging.fault": [(RING, CHAINS), (RING, CHAINS[::-1]), (RING, [[0]] * 7)],
    "judging.is_right": [(RING, CHAINS), (RING, CHAINS[::-1])],
    "judging.is_neat": [(RING, CHAINS), (RING, CHAINS[::-1])],
    "judging.told_pairs": [(RING, CHAINS), (RING, tuple(CHAINS)), ([], [])],
    "judging.shows_pairs": [(RING, CHAINS, PAIRS), (RING, CHAINS, PAIRS[::-1])],
    "ranks.rank": [(ROWS,), ([],)],
    "ranks.relations": [(ROWS,), ([],)],
    "ranks.made_of": [(ROWS, (0, 2, 4)), (ROWS, (7,))],
    "bars.bars_of": [(SHAPE[::-1],), (OTHER,), ([],)],
    "bars.bars_by": [(SHAPE, PAIRS[::-1]), ([], [])],
    "bars.lasting": [(BARS, 0, 0, 1)],
    "bars.alive": [(BARS, 0, 0)],
    "bars.changes": [(BARS, 0), ([], 0)],
    "bars.euler_by_bars": [(BARS, 0)],
    "cycles.holes": [(SHAPE[::-1], 1, 3)],
    "cycles.holes_lasting": [(SHAPE[::-1], 1, 3, 5)],
    "cycles.paper_of": [(RING, 5), (RING, 0), (RING, 6)],
    "cycles.judge_paper": [(RING, 5, ("filled", 6, (6,))), (RING, 5, ["open", [3, 4, 5]]), (RING, 5, ("open", [3]))],
    "cycles.same_hole": [(RING, (0,), (2,), 5)],
    "editing.edited": [(SHAPE[::-1], EDIT), (SHAPE, ("all", ())), (SHAPE, ("take", (0,))), (SHAPE, ["take", [0]])],
    "editing.inverse": [(SHAPE[::-1], EDIT), (SHAPE, ("all", ())), (SHAPE, ("take", (0,))), (SHAPE, ["take", [0]])],
    "nearness.cost": [(BARS[0], BARS[1])],
    "nearness.cost_alone": [(BARS[0],)],
    "nearness.is_bound": [(BARS[0], 0)],
    "nearness.partners": [(BARS[0], BARS, 2), (BARS[0], [], 0)],
    "matching.matched": [(BARS, BARS[::-1], 0), (BARS, LESS, 3), (BARS, LESS, 1), (LESS, BARS, 1), ([], [], 0)],
    "matching.judge_matched": [(BARS, LESS, 3, [(2, 1), (3, 0)]), (BARS, LESS, 3, [[2, 1], [3, 0]])],
    "matching.judge_short": [(BARS, LESS, 1, (0, [3, 2])), (BARS, LESS, 1, [0, [3, 2]])],
    "closest.closest": [(BARS, BARS[::-1]), (BARS, LESS), (LESS, BARS), ([], []), (BARS, [])],
    "closest.judge_closest": [(BARS, LESS, 2, [(3, 0), (2, 1)], (0, [2])), (BARS, BARS, 0, [[0, 0]], [])],
    "stable.difference": [(SHAPE[::-1], OTHER), (SHAPE, LATE), ([], [])],
    "stable.followed": [(SHAPE[::-1], OTHER), (SHAPE, LATE), ([], [])],
}
# For each method some calls, one after another, with the arguments that its class is called with.
METHOD_CALLS = {
    "keeping.Kept": (RING, [
        ("order",), ("pairs",), ("chains",), ("swap", 4), ("swap", 0), ("swap", 3), ("swap", 6), ("put", (3,)),
        ("put", [0]), ("order",), ("pairs",), ("chains",), ("drop",), ("drop",), ("order",), ("pairs",), ("chains",)]),
    "history.History": (SHAPE[::-1], [
        ("shape",), ("pairs",), ("chains",), ("bars",), ("do", EDIT), ("do", ["take", [0]]), ("do", ("all", ([],))),
        ("shape",), ("pairs",), ("chains",), ("bars",), ("undo",), ("undo",), ("redo",), ("redo",), ("counts",),
        ("shape",), ("pairs",), ("chains",), ("bars",)]),
}


def named(path):
    module, name = path.split(".")
    return getattr(import_module(f"barstay.{module}"), name)


def lists_in(value):
    """Return all lists in a value, itself one of them if it is a list."""
    parts = list(value) if isinstance(value, (list, tuple)) else []
    return ([value] if isinstance(value, list) else []) + [found for part in parts for found in lists_in(part)]


def called(call, given):
    """Return what a call gives: what it returns, or the word and the place of its error."""
    try:
        return call(*given)
    except BarError as error:
        return (error.word, error.place)


class TestExamples(unittest.TestCase):

    def test_all_of_the_document(self):
        test = doctest.DocTestParser().get_doctest(EXAMPLES, {}, "EXAMPLES", "EXAMPLES", 0)
        runner = doctest.DocTestRunner()
        runner.run(test)
        self.assertEqual((runner.tries, runner.failures), (21, 0))


class TestArguments(unittest.TestCase):

    def test_each_function_of_the_interface_is_called(self):
        names = [f"{file}.{name}" for file in INTERFACE for name in INTERFACE[file] if file != "errors"]
        self.assertEqual(sorted(names), sorted([*CALLS, *METHOD_CALLS]))
        for path, (_, calls) in METHOD_CALLS.items():
            file, name = path.split(".")
            self.assertEqual({call[0] for call in calls}, set(METHODS[file][name]))

    def test_arguments_stay(self):
        for path, rows in CALLS.items():
            for given in rows:
                before = deepcopy(given)
                first = called(named(path), given)
                self.assertEqual(given, before, path)
                self.assertEqual(called(named(path), given), first, path)

    def test_lists_are_new(self):
        for path, rows in CALLS.items():
            for given in rows:
                found, again = called(named(path), given), called(named(path), given)
                known = [id(part) for part in lists_in(given) + lists_in(again)]
                for part in lists_in(found):
                    self.assertNotIn(id(part), known, path)

    def test_a_list_that_is_returned_may_be_changed(self):
        for path, rows in CALLS.items():
            for given in rows:
                expected = deepcopy(called(named(path), given))
                for part in lists_in(called(named(path), given)):
                    part.insert(0, "changed")
                    part.reverse()
                self.assertEqual(called(named(path), given), expected, path)

    def test_methods(self):
        for path, (given, calls) in METHOD_CALLS.items():
            kept, twin, held = named(path)(given), named(path)(given), deepcopy(given)
            seen = lists_in(given)
            for name, *rest in calls:
                before = deepcopy(rest)
                found = called(getattr(kept, name), rest)
                self.assertEqual(found, called(getattr(twin, name), rest), name)
                self.assertEqual((rest, given), (before, held), name)
                for part in lists_in(found):
                    self.assertNotIn(id(part), [id(other) for other in seen], name)
                    # What is returned once more is not touched by this, as the twin's lists stay whole.
                    part.append("changed")
                    seen.append(part)


if __name__ == "__main__":
    unittest.main()
