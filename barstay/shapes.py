"""Simplices, shapes and bars: what they are, and in which order they stand."""

from barstay.errors import BadBar, BadHeight, BadShape, BadSimplex
from barstay.errors import DuplicateSimplex, LateFace, MissingFace, UnknownSimplex

VERTEX_MOST = 11
HEIGHT_MOST = 1000
ITEMS_MOST = 60
DIMENSION_MOST = 2


def is_whole(value):
    """Tell whether a value is an integer."""
    # Python counts True and False as integers, the document does not.
    return isinstance(value, int) and not isinstance(value, bool)


def is_vertex(value):
    """Tell whether a value is a vertex of a simplex."""
    return is_whole(value) and 0 <= value <= VERTEX_MOST


def is_height(value):
    """Tell whether a value is a height."""
    return is_whole(value) and -HEIGHT_MOST <= value <= HEIGHT_MOST


def is_simplex(value):
    """Tell whether a value is a simplex."""
    if not isinstance(value, tuple) or not 1 <= len(value) <= DIMENSION_MOST + 1:
        return False
    # Only integers are compared below, so this comes first.
    if not all([is_vertex(part) for part in value]):
        return False
    return all([low < high for low, high in zip(value, value[1:])])


def dimension_of(simplex):
    """Return the dimension of a simplex."""
    return len(simplex) - 1


def faces_of(simplex):
    """Return the faces of a simplex, ascending."""
    if dimension_of(simplex) == 0:
        return []
    # To leave out a later vertex gives a lesser tuple.
    return [simplex[:at] + simplex[at + 1:] for at in reversed(range(len(simplex)))]


def check_shape(shape):
    """Return None for a list of items that is a shape, or raise its first error."""
    if len(shape) > ITEMS_MOST:
        raise BadShape()
    heights = _heights_by_simplex(shape)
    for index, (simplex, height) in enumerate(shape):
        _check_faces(simplex, height, heights, index)


def _heights_by_simplex(items):
    heights = {}
    for index, item in enumerate(items):
        if not isinstance(item, tuple) or len(item) != 2 or not is_simplex(item[0]):
            raise BadSimplex(index)
        simplex, height = item
        if not is_height(height):
            raise BadHeight(index)
        if simplex in heights:
            raise DuplicateSimplex(index)
        heights[simplex] = height
    return heights


def _check_faces(simplex, height, heights, index):
    for face in faces_of(simplex):
        if face not in heights:
            raise MissingFace(index)
        if heights[face] > height:
            raise LateFace(index)


def grown(shape):
    """Return the items of a shape in the order of growing."""
    return sorted(shape, key=_growing_key)


def _growing_key(item):
    simplex, height = item
    return (height, len(simplex), simplex)


def order_of(shape):
    """Return the simplices of a shape in the order of growing."""
    return [simplex for simplex, height in grown(shape)]


def height_of(shape, simplex):
    """Return the height of a simplex of a shape, or raise UnknownSimplex."""
    for known, height in shape:
        if known == simplex:
            return height
    raise UnknownSimplex(simplex)


def cofaces_of(shape, simplex):
    """Return the simplices of a shape of which a simplex is a face, ascending."""
    if simplex not in order_of(shape):
        raise UnknownSimplex(simplex)
    return sorted([other for other, height in shape if simplex in faces_of(other)])


def is_bar(value):
    """Tell whether a value is a bar."""
    if not isinstance(value, tuple) or len(value) != 3:
        return False
    dimension, birth, death = value
    if not is_whole(dimension) or not 0 <= dimension <= DIMENSION_MOST:
        return False
    if not is_height(birth):
        return False
    return death is None or (is_height(death) and birth < death)


def check_bars(bars):
    """Return None for a list of bars, or raise BadBar for the first other item."""
    for index, bar in enumerate(bars):
        if not is_bar(bar):
            raise BadBar(index)


def sorted_bars(bars):
    """Return the bars by dimension, birth and death, those without an end last."""
    return sorted(bars, key=_bar_key)


def _bar_key(bar):
    dimension, birth, death = bar
    # None cannot be compared with a height, so what tells them apart comes first.
    return (dimension, birth, death is None, 0 if death is None else death)
