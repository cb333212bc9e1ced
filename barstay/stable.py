"""Two heights of one shape, and the matching of the bars that they give."""

from barstay.bars import bars_of
from barstay.errors import OtherShape
from barstay.matching import matched


def difference(first, second):
    """Return the greatest difference between the heights of a simplex in two shapes, or raise OtherShape."""
    ones, others = sorted(first), sorted(second)
    if [simplex for simplex, height in ones] != [simplex for simplex, height in others]:
        raise OtherShape()
    return max([abs(one[1] - other[1]) for one, other in zip(ones, others)], default=0)


def followed(first, second):
    """Return 2 times the difference of two shapes, and the pairs of a matching of their bars within it."""
    number = 2 * difference(first, second)
    return (number, matched(bars_of(first), bars_of(second), number)[1])
