"""Shapes and lists of bars as text: one line for each item."""

from barstay.errors import BadLine
from barstay.shapes import check_bars, check_shape

DIGITS = "0123456789"
DIGITS_MOST = 6
HEIGHT_WORD = "at"
NO_END = "-"


def format_shape(shape):
    """Return the text that writes a shape."""
    return "\n".join([_shape_line(simplex, height) for simplex, height in shape])


def _shape_line(simplex, height):
    return " ".join([str(vertex) for vertex in simplex] + [HEIGHT_WORD, str(height)])


def format_bars(bars):
    """Return the text that writes a list of bars."""
    return "\n".join([_bar_line(dimension, birth, death) for dimension, birth, death in bars])


def _bar_line(dimension, birth, death):
    return " ".join([str(dimension), str(birth), NO_END if death is None else str(death)])


def parse_shape(text):
    """Return the items that a text writes, or raise the first error."""
    # All lines are read before any item is checked.
    shape = [_item_of(words, index) for index, words in enumerate(_words_by_line(text))]
    check_shape(shape)
    return shape


def parse_bars(text):
    """Return the bars that a text writes, or raise the first error."""
    bars = [_bar_of(words, index) for index, words in enumerate(_words_by_line(text))]
    check_bars(bars)
    return bars


def _words_by_line(text):
    # The empty text has no line, not an empty one.
    if text == "":
        return []
    return [line.split(" ") for line in text.split("\n")]


def _item_of(words, index):
    if len(words) < 3 or words[-2] != HEIGHT_WORD:
        raise BadLine(index)
    vertices = tuple([_number_of(word, index) for word in words[:-2]])
    return (vertices, _number_of(words[-1], index))


def _bar_of(words, index):
    if len(words) != 3:
        raise BadLine(index)
    dimension, birth, death = words
    end = None if death == NO_END else _number_of(death, index)
    return (_number_of(dimension, index), _number_of(birth, index), end)


def _number_of(word, index):
    if not _is_number(word):
        raise BadLine(index)
    return int(word)


def _is_number(word):
    digits = word.removeprefix("-")
    if not 1 <= len(digits) <= DIGITS_MOST:
        return False
    # Python takes more signs for digits than these ten.
    if not all([sign in DIGITS for sign in digits]):
        return False
    # With a 0 in front there is but one number, and it has no sign.
    return digits[0] != "0" or word == "0"
