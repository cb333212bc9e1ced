"""The neat chains of an order, its pairs, and what fills a cycle."""

from barstay.chains import added, boundaries, last_of, pairs_by


def reduced(order):
    """Return the list of the neat chains of an order."""
    chains, _ = _reduction(order)
    return chains


def pairs_of(order):
    """Return the list of the pairs of an order."""
    return pairs_by(boundaries(order, reduced(order)))


def filling(order, cycle):
    """Return the chain of deaths that fills a cycle, or None if no chain fills it."""
    _, fillers = _reduction(order)
    rest, chain = _cleared(cycle, fillers)
    return chain if rest == () else None


def _reduction(order):
    """Return the neat chains, and by the last position of its boundary the boundary and the chain of each death."""
    chains = []
    fillers = {}
    for place, bound in enumerate(boundaries(order, [(at,) for at in range(len(order))])):
        rest, filler = _cleared(bound, fillers)
        chain = added((place,), filler)
        chains.append(chain)
        if rest != ():
            fillers[last_of(rest)] = (rest, chain)
    return chains, fillers


def _cleared(cycle, fillers):
    """Return what is left of a cycle without the ends of the fillers, and the chain that fills the rest of it."""
    left = cycle
    chain = ()
    # From the top down: the boundary of a filler has nothing above its end, so no end that is gone comes back.
    for end in sorted(fillers, reverse=True):
        if end in left:
            bound, filler = fillers[end]
            left = added(left, bound)
            chain = added(chain, filler)
    return left, chain
