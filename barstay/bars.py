"""The bars of a shape, and which bars last from a height to another one."""

from barstay.reducing import pairs_of
from barstay.shapes import dimension_of, grown, order_of, sorted_bars


def bars_of(shape):
    """Return the bars of a shape, sorted."""
    return bars_by(grown(shape), pairs_of(order_of(shape)))


def bars_by(items, pairs):
    """Return the bars of items in the order of growing, by the pairs of this order, sorted."""
    bars = [_bar_of(items, birth, death) for birth, death in pairs]
    return sorted_bars([(dimension, born, end) for dimension, born, end in bars if born != end])


def _bar_of(items, birth, death):
    simplex, born = items[birth]
    return (dimension_of(simplex), born, None if death is None else items[death][1])


def lasting(bars, dimension, first, second):
    """Return how many bars of a dimension last from a height to another one."""
    return len([bar for bar in bars if bar[0] == dimension and _lasts(bar, first, second)])


def _lasts(bar, first, second):
    _, birth, death = bar
    return birth <= first and (death is None or death > second)


def alive(bars, dimension, height):
    """Return how many bars of a dimension last at a height."""
    return lasting(bars, dimension, height, height)


def changes(bars, dimension):
    """Return, ascending, the heights at which another number of bars lasts than just below, with this number."""
    steps = []
    for height in _ends_of([bar for bar in bars if bar[0] == dimension]):
        many = alive(bars, dimension, height)
        # Births and deaths are integers, so just below a height it is as at the integer before it.
        if many != alive(bars, dimension, height - 1):
            steps.append((height, many))
    return steps


def _ends_of(bars):
    births = [birth for dimension, birth, death in bars]
    deaths = [death for dimension, birth, death in bars if death is not None]
    return sorted(set(births + deaths))


def euler_by_bars(bars, height):
    """Return Euler's number at a height, as the bars that last there tell it."""
    return alive(bars, 0, height) - alive(bars, 1, height) + alive(bars, 2, height)
