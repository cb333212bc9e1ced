"""Edits of a shape: which can be done, what comes of them, and what leads back."""

from barstay.errors import BadEdit
from barstay.shapes import ITEMS_MOST, cofaces_of, faces_of, grown, height_of, is_height, is_simplex

EDITS_MOST = 20
HEIGHT = "height"
ADD = "add"
TAKE = "take"
ALL = "all"


def edited(shape, edit):
    """Return the shape behind an edit, in the order of growing, or raise BadEdit."""
    return _shapes_through(shape, edit)[-1]


def inverse(shape, edit):
    """Return the edit that leads back, or raise BadEdit."""
    shapes = _shapes_through(shape, edit)
    backs = [_single_back(ahead, single) for ahead, single in zip(shapes, singles_of(edit))]
    return (ALL, tuple(backs[::-1])) if _is_several(edit) else backs[0]


def singles_of(edit):
    """Return the list of the single edits of which an edit consists."""
    return list(edit[1]) if _is_several(edit) else [edit]


def _shapes_through(shape, edit):
    """Return the shapes ahead of the single edits of an edit, and the one behind them all, or raise BadEdit."""
    shapes = [grown(shape)]
    for index, single in enumerate(singles_of(edit)):
        if not _can_be_done(shapes[-1], single):
            raise BadEdit(index if _is_several(edit) else None)
        shapes.append(_behind(shapes[-1], single))
    return shapes


def _is_several(value):
    if not isinstance(value, tuple) or len(value) != 2 or value[0] != ALL:
        return False
    return isinstance(value[1], tuple) and len(value[1]) <= EDITS_MOST


def _is_single(value):
    if not isinstance(value, tuple) or not 2 <= len(value) <= 3 or not is_simplex(value[1]):
        return False
    if len(value) == 2:
        return value[0] == TAKE
    return value[0] in (HEIGHT, ADD) and is_height(value[2])


def _can_be_done(shape, value):
    """Tell whether a value is a single edit that can be done with a shape."""
    if not _is_single(value):
        return False
    word, simplex = value[:2]
    is_there = simplex in [known for known, height in shape]
    if word == ADD:
        return not is_there and len(shape) < ITEMS_MOST and _fits(shape, simplex, value[2])
    if word == HEIGHT:
        return is_there and _fits(shape, simplex, value[2])
    return is_there and cofaces_of(shape, simplex) == []


def _fits(shape, simplex, height):
    """Tell whether a simplex can have a height in a shape, as its faces and what it is a face of have theirs."""
    heights = {known: low for known, low in shape}
    if not all([face in heights and heights[face] <= height for face in faces_of(simplex)]):
        return False
    return all([low >= height for known, low in shape if simplex in faces_of(known)])


def _behind(shape, single):
    others = [item for item in shape if item[0] != single[1]]
    return others if single[0] == TAKE else grown(others + [single[1:]])


def _single_back(shape, single):
    """Return the edit that leads back from a single edit to a shape."""
    word, simplex = single[:2]
    if word == ADD:
        return (TAKE, simplex)
    return (HEIGHT if word == HEIGHT else ADD, simplex, height_of(shape, simplex))
