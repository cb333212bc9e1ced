"""Points 4.4 and 4.5: what comes of edits, which cannot be done, and what leads back."""

import unittest
from itertools import combinations, permutations
from random import Random

from barstay import editing
from barstay.editing import edited, inverse
from barstay.errors import BadEdit
from barstay.shapes import check_shape, grown
from tests.checks import Checks
from tests.samples import EIGHT, NAMED, NESTED, RING, SIXTY, STRANGE, heights_for, shuffled

SHAPE = [((0,), 0), ((1,), 0), ((2,), 0), ((0, 1), 1), ((1, 2), 2), ((0, 2), 3), ((0, 1, 2), 6)]
PARTS = [part for size in (1, 2, 3) for part in combinations(range(4), size)]
NO_SIMPLICES = [None, True, 0, "0", [0], (), (True,), (False,), (0, True), (12,), (-1,), (1, 0), (0, 0), ((0,),),
                (0, 1, 2, 3), ("0",), NESTED]
NO_HEIGHTS = [None, True, False, "1", [1], (1,), (), 1001, -1001, 10 ** 30, NESTED]
# Values that are no edits, whatever the shape is.
NO_EDITS = STRANGE + [
    (), ("height",), ("add",), ("take",), ("all",), "height", "all", ("", (0,)), ("", (0,), 0), ("Take", (0, 1, 2)),
    ("drop", (0, 1, 2)), (None, (0, 1, 2)), (["take"], (0, 1, 2)), (("take",), (0, 1, 2)), (b"take", (0, 1, 2)),
    ("take", (0, 1, 2), 6), ("take", (0, 1, 2), None), ("height", (0, 1, 2)), ("add", (3,)),
    ("height", (0, 1, 2), 7, 7), ("add", (3,), 7, 7), ("take", (0, 1, 2), 6, 6), ["height", (0, 1, 2), 7],
    ["take", (0, 1, 2)], ["add", (3,), 7], [("take", (0, 1, 2))], (("take", (0, 1, 2)),), {"take": (0, 1, 2)},
    (0, 1, 2), ((0, 1, 2), 7), ("height", 7, (0, 1, 2)), ("add", 7, (3,)), NESTED, ("take", NESTED), (NESTED, (0,)),
    ("height", ((0, 1, 2), 6), 7), ("add", ((3,), 7)), (True, (0, 1, 2)), (0, (0, 1, 2), 3)]
# Values that are not even several edits in one whose form is right.
NO_SEVERAL = [
    ("all", []), ("all", [("take", (0, 1, 2))]), ("all", None), ("all", True), ("all", "take"), ("all", {}),
    ("all", (), ()), ("all", (), None), ("all", ("take", (0, 1, 2)), ("add", (3,), 5)), ["all", ()], ["all", []],
    ("all", (("height", (0, 1, 2), 6),) * 21), ("all", (None,) * 21), ("ALL", ()), (["all"], ()),
    ("all", (("take", (0, 1, 2)),), 1), ("all", 0), ("all", (0,), 0)]


def plainly(shape, edit):
    """Return the shape behind a single edit, or None if it cannot be done, as checking a whole list tells it."""
    word, simplex = edit[:2]
    if (simplex in dict(shape)) == (word == "add"):
        return None
    items = [item for item in shape if item[0] != simplex] + ([(simplex, edit[2])] if word != "take" else [])
    try:
        check_shape(items)
    except ValueError:
        return None
    return grown(items)


def plainly_back(shape, edit):
    word, simplex = edit[:2]
    height = dict(shape).get(simplex)
    return {"height": ("height", simplex, height), "add": ("take", simplex), "take": ("add", simplex, height)}[word]


def any_single(shape, source):
    """Return any single edit that can be done with a shape."""
    while True:
        simplex, height = source.choice(PARTS + [(5,), (5, 6), (6,)]), source.randrange(-6, 12)
        edit = source.choice([("height", simplex, height), ("add", simplex, height), ("take", simplex)])
        if plainly(shape, edit) is not None:
            return edit


class EditChecks(Checks):

    def fails(self, shape, edit, place):
        """Check that an edit cannot be done, and that its inverse cannot be told."""
        before = list(shape)
        self.raises(BadEdit, place, edited, shape, edit)
        self.raises(BadEdit, place, inverse, shape, edit)
        self.assertEqual(shape, before)

    def gives(self, shape, edit, expected, back):
        """Check what comes of an edit, and that its inverse leads back."""
        self.gives_new_lists(edited, shape, edit)
        self.assertEqual(edited(shape, edit), expected)
        self.assertEqual(inverse(shape, edit), back)
        self.assertEqual(edited(expected, back), grown(shape))
        again = inverse(expected, back)
        self.assertEqual(edited(shape, again), expected)


class TestSingleEdits(EditChecks):

    def test_a_height(self):
        self.gives(SHAPE, ("height", (0, 1, 2), 9), SHAPE[:6] + [((0, 1, 2), 9)], ("height", (0, 1, 2), 6))
        self.gives(SHAPE, ("height", (0, 2), 1), SHAPE[:3] + [((0, 1), 1), ((0, 2), 1), ((1, 2), 2), SHAPE[6]],
                   ("height", (0, 2), 3))
        self.gives(SHAPE, ("height", (2,), -5), [((2,), -5)] + SHAPE[:2] + SHAPE[3:], ("height", (2,), 0))

    def test_the_height_that_it_has(self):
        for simplex, height in SHAPE:
            self.gives(SHAPE, ("height", simplex, height), SHAPE, ("height", simplex, height))

    def test_a_height_equal_to_that_of_a_face_or_of_a_simplex_above(self):
        self.gives(SHAPE, ("height", (0, 1, 2), 3), SHAPE[:6] + [((0, 1, 2), 3)], ("height", (0, 1, 2), 6))
        self.gives(SHAPE, ("height", (1, 2), 0), SHAPE[:3] + [((1, 2), 0), ((0, 1), 1)] + SHAPE[5:],
                   ("height", (1, 2), 2))
        self.gives(SHAPE, ("height", (0, 2), 6), SHAPE[:5] + [((0, 2), 6), SHAPE[6]], ("height", (0, 2), 3))
        self.gives(SHAPE, ("height", (0,), 1), SHAPE[1:3] + [((0,), 1)] + SHAPE[3:], ("height", (0,), 0))
        self.fails(SHAPE, ("height", (0, 1, 2), 2), None)
        self.fails(SHAPE, ("height", (1, 2), -1), None)
        self.fails(SHAPE, ("height", (0, 2), 7), None)
        self.fails(SHAPE, ("height", (0,), 2), None)

    def test_add(self):
        self.gives([], ("add", (4,), -3), [((4,), -3)], ("take", (4,)))
        self.gives(SHAPE, ("add", (3,), 0), SHAPE[:3] + [((3,), 0)] + SHAPE[3:], ("take", (3,)))
        self.gives(SHAPE[:6], ("add", (0, 1, 2), 3), SHAPE[:6] + [((0, 1, 2), 3)], ("take", (0, 1, 2)))
        self.gives(SHAPE[:4], ("add", (0, 2), 0), SHAPE[:3] + [((0, 2), 0), ((0, 1), 1)], ("take", (0, 2)))

    def test_take(self):
        self.gives([((4,), -3)], ("take", (4,)), [], ("add", (4,), -3))
        self.gives(SHAPE, ("take", (0, 1, 2)), SHAPE[:6], ("add", (0, 1, 2), 6))
        self.gives(SHAPE[:6], ("take", (0, 1)), SHAPE[:3] + SHAPE[4:6], ("add", (0, 1), 1))

    def test_the_limits_of_heights(self):
        self.gives(SHAPE, ("height", (0, 1, 2), 1000), SHAPE[:6] + [((0, 1, 2), 1000)], ("height", (0, 1, 2), 6))
        self.gives(SHAPE, ("height", (0,), -1000), [((0,), -1000)] + SHAPE[1:], ("height", (0,), 0))
        self.gives([], ("add", (0,), 1000), [((0,), 1000)], ("take", (0,)))
        self.gives([], ("add", (0,), -1000), [((0,), -1000)], ("take", (0,)))

    def test_items_in_any_sequence(self):
        for items in list(permutations(SHAPE))[::97]:
            items = list(items)
            self.assertEqual(edited(items, ("height", (0, 2), 5)), SHAPE[:5] + [((0, 2), 5), SHAPE[6]])
            self.assertEqual(edited(items, ("take", (0, 1, 2))), SHAPE[:6])
            self.assertEqual(edited(items, ("add", (3,), 2)), SHAPE[:4] + [((3,), 2)] + SHAPE[4:])
            self.assertEqual(edited(items, ("all", ())), SHAPE)
            self.assertEqual(inverse(items, ("take", (0, 1, 2))), ("add", (0, 1, 2), 6))

    def test_all_single_edits_of_small_shapes(self):
        shapes = [[], SHAPE[:4], SHAPE, [(part, 2) for part in PARTS], heights_for(shuffled(EIGHT, 3), 3)]
        done = 0
        for shape in shapes:
            for simplex in PARTS:
                edits = [(word, simplex, height) for word in ("height", "add") for height in range(-7, 9)]
                for edit in edits + [("take", simplex)]:
                    expected = plainly(shape, edit)
                    if expected is None:
                        self.fails(shape, edit, None)
                    else:
                        self.gives(shape, edit, expected, plainly_back(shape, edit))
                        done += 1
        self.assertGreater(done, 100)


class TestSeveralInOne(EditChecks):

    def test_none(self):
        for shape in ([], SHAPE, SHAPE[::-1]):
            self.gives(shape, ("all", ()), grown(shape), ("all", ()))

    def test_one(self):
        self.gives(SHAPE, ("all", (("take", (0, 1, 2)),)), SHAPE[:6], ("all", (("add", (0, 1, 2), 6),)))

    def test_edits_that_need_earlier_ones(self):
        self.gives([], ("all", (("add", (0,), 1), ("add", (3,), 2), ("add", (0, 3), 2))),
                   [((0,), 1), ((3,), 2), ((0, 3), 2)], ("all", (("take", (0, 3)), ("take", (3,)), ("take", (0,)))))
        self.gives(SHAPE, ("all", (("take", (0, 1, 2)), ("take", (0, 2)))), SHAPE[:5],
                   ("all", (("add", (0, 2), 3), ("add", (0, 1, 2), 6))))
        self.gives(SHAPE, ("all", (("height", (0, 1, 2), 9), ("height", (0, 2), 8))),
                   SHAPE[:5] + [((0, 2), 8), ((0, 1, 2), 9)],
                   ("all", (("height", (0, 2), 3), ("height", (0, 1, 2), 6))))
        self.fails(SHAPE, ("all", (("take", (0, 2)), ("take", (0, 1, 2)))), 0)
        self.fails(SHAPE, ("all", (("height", (0, 2), 8), ("height", (0, 1, 2), 9))), 0)

    def test_the_heights_in_between_lead_back(self):
        edit = ("all", (("height", (0, 1, 2), 9), ("height", (0, 1, 2), 7), ("take", (0, 1, 2)), ("add", (0, 1, 2), 3)))
        self.gives(SHAPE, edit, SHAPE[:6] + [((0, 1, 2), 3)],
                   ("all", (("take", (0, 1, 2)), ("add", (0, 1, 2), 7), ("height", (0, 1, 2), 9),
                            ("height", (0, 1, 2), 6))))

    def test_twenty(self):
        self.assertEqual(editing.EDITS_MOST, 20)
        ups = tuple(("height", (0, 1, 2), height) for height in range(20))
        self.fails(SHAPE, ("all", ups), 0)
        self.gives(SHAPE, ("all", ups[::-1][:17]), SHAPE[:6] + [((0, 1, 2), 3)],
                   ("all", tuple(("height", (0, 1, 2), height) for height in [*range(4, 20), 6])))
        self.gives(SHAPE, ("all", tuple(("height", (0, 1, 2), height) for height in range(100, 120))),
                   SHAPE[:6] + [((0, 1, 2), 119)],
                   ("all", tuple(("height", (0, 1, 2), height) for height in [*range(118, 99, -1), 6])))

    def test_rows_of_any_edits(self):
        source = Random(5)
        for many in [*range(21)] * 3:
            shape = heights_for(shuffled(source.choice([RING, EIGHT, []]), many), many)
            now, edits, backs = grown(shape), [], []
            for _ in range(many):
                edits.append(any_single(now, source))
                backs.insert(0, plainly_back(now, edits[-1]))
                now = plainly(now, edits[-1])
            self.gives(shape, ("all", tuple(edits)), now, ("all", tuple(backs)))

    def test_the_first_item_that_is_none_or_cannot_be_done(self):
        good = ("height", (0, 1, 2), 6)
        never = [("height", (3,), 0), ("height", (0, 1, 2), 2), ("add", (0,), 0), ("take", (0,))]
        for bad in NO_EDITS + NO_SEVERAL + never + [("all", ()), ("all", (good,)), ("all", (("all", ()),))]:
            for at in (0, 1, 7, 19):
                self.fails(SHAPE, ("all", (good,) * at + (bad,)), at)
                self.fails(SHAPE, ("all", (good,) * at + (bad,) + (None,) * (19 - at)), at)
            self.fails(SHAPE, ("all", (bad, good)), 0)

    def test_what_an_earlier_item_makes_impossible(self):
        self.fails(SHAPE, ("all", (("take", (0, 1, 2)), ("take", (0, 1, 2)))), 1)
        self.fails(SHAPE, ("all", (("add", (3,), 0), ("add", (3,), 0))), 1)
        self.fails(SHAPE, ("all", (("height", (0, 1, 2), 3), ("height", (0, 2), 4))), 1)
        self.fails(SHAPE, ("all", (("take", (0, 1, 2)), ("add", (0, 1, 2), 2))), 1)

    def test_behind_an_error_the_shape_stays(self):
        shape = list(SHAPE)
        self.fails(shape, ("all", (("take", (0, 1, 2)), ("take", (0,)))), 1)
        self.assertEqual(shape, SHAPE)


class TestBadEdits(EditChecks):

    def test_values_that_are_no_edits(self):
        for value in NO_EDITS + NO_SEVERAL:
            self.fails(SHAPE, value, None)
            self.fails([], value, None)

    def test_simplices_of_other_kinds(self):
        for value in NO_SIMPLICES:
            for edit in (("height", value, 6), ("add", value, 6), ("take", value)):
                self.fails(SHAPE, edit, None)

    def test_heights_of_other_kinds(self):
        for value in NO_HEIGHTS:
            self.fails(SHAPE, ("height", (0, 1, 2), value), None)
            self.fails([((0,), 0)], ("height", (0,), value), None)
            self.fails(SHAPE, ("add", (3,), value), None)

    def test_true_is_no_integer(self):
        self.fails([((0,), 0), ((1,), 0)], ("take", (True,)), None)
        self.fails([((0,), 0), ((1,), 0)], ("height", (True,), 0), None)
        self.fails([((0,), 0)], ("add", (True,), 0), None)
        self.fails([((0,), 0)], ("add", (0, True), 0), None)

    def test_a_missing_simplex(self):
        for simplex in ((3,), (0, 3), (0, 1, 3)):
            self.fails(SHAPE, ("height", simplex, 6), None)
            self.fails(SHAPE, ("take", simplex), None)

    def test_one_that_is_there(self):
        for simplex, height in SHAPE:
            self.fails(SHAPE, ("add", simplex, height), None)

    def test_a_missing_face(self):
        self.fails(SHAPE, ("add", (0, 3), 9), None)
        self.fails([], ("add", (0, 3), 9), None)
        self.fails(SHAPE[:5], ("add", (0, 1, 2), 9), None)

    def test_a_higher_face(self):
        self.fails(SHAPE[:6], ("add", (0, 1, 2), 2), None)
        self.fails(SHAPE[:5], ("add", (0, 2), -1), None)

    def test_a_face_of_another_one_taken_away(self):
        for simplex, _ in SHAPE[:6]:
            self.fails(SHAPE, ("take", simplex), None)

    def test_a_sixty_first_simplex(self):
        shape = [(simplex, len(simplex)) for simplex in SIXTY]
        self.fails(shape, ("add", (0, 1, 2), 9), None)
        self.fails(shape, ("all", (("height", SIXTY[59], 5), ("add", (0, 1, 2), 9))), 1)
        full = grown(shape[:59] + [((0, 1, 2), 9)])
        self.gives(shape, ("all", (("take", SIXTY[59]), ("add", (0, 1, 2), 9))), full,
                   ("all", (("take", (0, 1, 2)), ("add", SIXTY[59], 2))))
        self.gives(shape[:59], ("add", SIXTY[59], 2), grown(shape), ("take", SIXTY[59]))
        self.gives(shape, ("height", SIXTY[59], 7), shape[:59] + [(SIXTY[59], 7)], ("height", SIXTY[59], 2))


class TestShapesStay(EditChecks):

    def test_for_each_kind_of_edit(self):
        for part in NAMED.values():
            shape = heights_for(shuffled(part, 4), 4)
            before = list(shape)
            singles = [("height", *item) for item in shape[-1:]] + [("take", simplex) for simplex, _ in shape[-1:]]
            for edit in singles + [("all", ()), ("all", tuple(singles))]:
                self.gives_new_lists(edited, shape, edit)
                inverse(shape, edit)
            self.assertEqual(shape, before)

    def test_a_list_that_is_returned_may_be_changed(self):
        shape = list(SHAPE)
        for edit in (("all", ()), ("take", (0, 1, 2)), ("height", (0, 1, 2), 6), ("add", (3,), 1)):
            edited(shape, edit).clear()
            self.assertEqual(shape, SHAPE)


if __name__ == "__main__":
    unittest.main()
