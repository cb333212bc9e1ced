"""The errors of the program: each one has a word and a place."""


class BarError(ValueError):
    """Every error of the program; the place tells where it was found."""

    def __init__(self, word, place=None):
        ValueError.__init__(self, word if place is None else f"{word} at {place}")
        self.word = word
        self.place = place


class BadShape(BarError):
    """A shape has more items than it may have."""

    def __init__(self, place=None):
        BarError.__init__(self, "BadShape", place)


class BadSimplex(BarError):
    """An item is not a tuple of a simplex and one more part."""

    def __init__(self, place=None):
        BarError.__init__(self, "BadSimplex", place)


class BadHeight(BarError):
    """The height of an item is not a height."""

    def __init__(self, place=None):
        BarError.__init__(self, "BadHeight", place)


class DuplicateSimplex(BarError):
    """An item has the simplex of an item before it."""

    def __init__(self, place=None):
        BarError.__init__(self, "DuplicateSimplex", place)


class MissingFace(BarError):
    """No item has a face of the simplex of an item."""

    def __init__(self, place=None):
        BarError.__init__(self, "MissingFace", place)


class LateFace(BarError):
    """A face of a simplex has a greater height than the simplex."""

    def __init__(self, place=None):
        BarError.__init__(self, "LateFace", place)


class UnknownSimplex(BarError):
    """A shape does not have a simplex that was asked for."""

    def __init__(self, place=None):
        BarError.__init__(self, "UnknownSimplex", place)


class BadBar(BarError):
    """An item of a list of bars is not a bar."""

    def __init__(self, place=None):
        BarError.__init__(self, "BadBar", place)


class BadLine(BarError):
    """A line of a text does not have its form."""

    def __init__(self, place=None):
        BarError.__init__(self, "BadLine", place)


class BadOrder(BarError):
    """A simplex cannot stand at its position in an order."""

    def __init__(self, place=None):
        BarError.__init__(self, "BadOrder", place)


class BadSwap(BarError):
    """Two neighbours in an order cannot be swapped."""

    def __init__(self, place=None):
        BarError.__init__(self, "BadSwap", place)


class BadEdit(BarError):
    """An edit has no right form or cannot be done."""

    def __init__(self, place=None):
        BarError.__init__(self, "BadEdit", place)


class NothingToUndo(BarError):
    """A history has no edit that could be undone."""

    def __init__(self, place=None):
        BarError.__init__(self, "NothingToUndo", place)


class NothingToRedo(BarError):
    """A history has no undone edit that could be redone."""

    def __init__(self, place=None):
        BarError.__init__(self, "NothingToRedo", place)


class OtherShape(BarError):
    """Two shapes do not have the same simplices."""

    def __init__(self, place=None):
        BarError.__init__(self, "OtherShape", place)
