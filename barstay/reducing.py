"""The neat chains of an order, its pairs, and what fills a cycle."""

from barstay.chains import own_boundaries, pairs_by
from barstay.ranks import made_of, sifted


def reduced(order):
    """Return the list of the neat chains of an order."""
    # A position is a death just if its boundary is not dependent, so sifting takes deaths alone to a chain.
    return [chain for bound, chain in sifted(own_boundaries(order))]


def pairs_of(order):
    """Return the list of the pairs of an order."""
    return pairs_by([bound for bound, chain in sifted(own_boundaries(order))])


def filling(order, cycle):
    """Return the chain of deaths that fills a cycle, or None if no chain fills it."""
    return made_of(own_boundaries(order), cycle)
