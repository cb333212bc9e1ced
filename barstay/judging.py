"""Judges of chains and pairs, whoever made them."""

from barstay.chains import boundaries, boundary, is_chain, last_of, pairs_by
from barstay.shapes import is_whole


def fault(order, value):
    """Return the fault of a value as right chains of an order, or None if it is right chains."""
    if not isinstance(value, (list, tuple)) or len(value) != len(order):
        return ("count", None)
    ends = []
    for place, item in enumerate(value):
        if not is_chain(order, item):
            return ("form", place)
        if last_of(item) != place:
            return ("end", place)
        bound = boundary(order, item)
        if bound != () and last_of(bound) in ends:
            return ("shared", place)
        ends.append(last_of(bound))
    return None


def is_right(order, value):
    """Tell whether a value is right chains of an order."""
    return fault(order, value) is None


def is_neat(order, value):
    """Tell whether a value is right chains of an order that are neat."""
    if not is_right(order, value):
        return False
    bounds = boundaries(order, value)
    # The boundary that belongs to a birth is ().
    if not all([bounds[place] != () for chain in value for place in chain[:-1]]):
        return False
    return not any([_meets_end_before(bounds, place) for place in range(len(bounds))])


def _meets_end_before(bounds, place):
    ends = [last_of(bound) for bound in bounds[:place]]
    return any([part in ends for part in bounds[place]])


def told_pairs(order, chains):
    """Return the list of the pairs that right chains of an order tell."""
    return pairs_by(boundaries(order, chains))


def shows_pairs(order, value, pairs):
    """Tell whether a value is right chains of an order, and pairs the list of the pairs that they tell."""
    if not is_right(order, value) or not isinstance(pairs, list):
        return False
    # To Python 1 equals True, so the kinds are judged first.
    return all([_is_pair(pair) for pair in pairs]) and pairs == told_pairs(order, value)


def _is_pair(value):
    if not isinstance(value, tuple) or len(value) != 2:
        return False
    birth, death = value
    return is_whole(birth) and (death is None or is_whole(death))
