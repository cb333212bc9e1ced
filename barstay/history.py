"""A shape that is edited, with undo and redo; the pairs of its order of growing are kept by swaps."""

from barstay.bars import bars_by
from barstay.editing import ADD, TAKE, edited, inverse, singles_of
from barstay.errors import NothingToRedo, NothingToUndo
from barstay.keeping import Kept
from barstay.shapes import check_shape, grown, order_of


class History:
    """A shape with the edits that are done and those that are undone."""

    def __init__(self, shape):
        check_shape(shape)
        self._shape = grown(shape)
        self._kept = Kept(order_of(shape))
        # Each is a tuple of an edit and its inverse, the one that is next to undo or to redo at the end.
        self._done = []
        self._undone = []
        self._swaps = 0

    def shape(self):
        """Return the items of the shape in the order of growing."""
        return list(self._shape)

    def pairs(self):
        """Return the pairs of positions in the order of growing, by births."""
        return self._kept.pairs()

    def chains(self):
        """Return a list of right chains of the order of growing."""
        return self._kept.chains()

    def bars(self):
        """Return the bars of the shape, sorted."""
        return bars_by(self._shape, self.pairs())

    def do(self, edit):
        """Do an edit and return the number of swaps, or raise BadEdit."""
        # This raises the error, if there is one, before anything is changed.
        back = inverse(self._shape, edit)
        self._done.append((edit, back))
        self._undone = []
        return self._follow(edit)

    def undo(self):
        """Undo the last edit that is done and return the number of swaps."""
        if not self._done:
            raise NothingToUndo()
        edit, back = self._done.pop()
        self._undone.append((edit, back))
        return self._follow(back)

    def redo(self):
        """Do the last undone edit again and return the number of swaps."""
        if not self._undone:
            raise NothingToRedo()
        edit, back = self._undone.pop()
        self._done.append((edit, back))
        return self._follow(edit)

    def counts(self):
        """Return how many edits are done, how many are undone, and how many swaps were made."""
        return (len(self._done), len(self._undone), self._swaps)

    def _follow(self, edit):
        """Bring the shape and its pairs behind an edit, and return the number of swaps."""
        swaps = 0
        for single in singles_of(edit):
            swaps += self._follow_single(single)
        self._swaps += swaps
        return swaps

    def _follow_single(self, single):
        word, simplex = single[:2]
        self._shape = edited(self._shape, single)
        if word == ADD:
            self._kept.put(simplex)
        order = self._kept.order()
        goal = len(order) - 1 if word == TAKE else order_of(self._shape).index(simplex)
        swaps = self._move(order.index(simplex), goal)
        if word == TAKE:
            self._kept.drop()
        return swaps

    def _move(self, start, goal):
        """Swap a simplex from place to place, and return the number of swaps."""
        # One of the two rows of places is empty.
        up, down = list(range(start, goal)), list(range(goal, start))
        for place in up + down[::-1]:
            self._kept.swap(place)
        return abs(goal - start)
