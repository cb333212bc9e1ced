"""Chains of an order: their sums, their boundaries, and the pairs that boundaries tell."""

from barstay.shapes import dimension_of, faces_of, is_whole


def added(first, second):
    """Return the sum of two chains."""
    return tuple(sorted(set(first) ^ set(second)))


def summed(chains):
    """Return the sum of a list or a tuple of chains."""
    total = ()
    for chain in chains:
        total = added(total, chain)
    return total


def last_of(chain):
    """Return the last position of a chain, or None of ()."""
    return chain[-1] if chain else None


def boundary(order, chain):
    """Return the boundary of a chain."""
    return boundaries(order, [chain])[0]


def boundaries(order, chains):
    """Return the list of the boundaries of some chains."""
    own = own_boundaries(order)
    return [summed([own[place] for place in chain]) for chain in chains]


def own_boundaries(order):
    """Return the list of the boundaries of the simplices of an order."""
    places = {simplex: place for place, simplex in enumerate(order)}
    return [tuple(sorted([places[face] for face in faces_of(simplex)])) for simplex in order]


def is_cycle(order, chain):
    """Tell whether a chain is a cycle."""
    return boundary(order, chain) == ()


def is_chain(order, value):
    """Tell whether a value is a chain of an order."""
    if not isinstance(value, tuple):
        return False
    # Only positions are compared and looked up below, so this comes first.
    if not all([is_whole(part) and 0 <= part < len(order) for part in value]):
        return False
    if not all([low < high for low, high in zip(value, value[1:])]):
        return False
    return all([dimension_of(order[place]) == dimension_of(order[value[0]]) for place in value])


def pairs_by(bounds):
    """Return the pairs that the boundaries of right chains tell, by births."""
    deaths = {last_of(bound): place for place, bound in enumerate(bounds) if bound != ()}
    return [(place, deaths.get(place)) for place, bound in enumerate(bounds) if bound == ()]
