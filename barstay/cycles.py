"""Holes of shapes, papers on the holes of an order, and cycles of the same hole."""

from barstay.chains import added, boundary, is_chain, is_cycle, last_of, own_boundaries
from barstay.ranks import made_of, rank, relations
from barstay.reducing import pairs_of, reduced
from barstay.shapes import dimension_of, grown, is_whole, order_of

FILLED = "filled"
OPEN = "open"


def holes(shape, dimension, height):
    """Return how many holes of a dimension a shape has at a height."""
    own = _bounds_up_to(shape, dimension, height)
    return len(own) - rank(own) - rank(_bounds_up_to(shape, dimension + 1, height))


def holes_lasting(shape, dimension, first, second):
    """Return how many holes of a dimension last from a height to another one."""
    filled = _bounds_up_to(shape, dimension + 1, second)
    # So many cycles are neither boundaries nor made of boundaries and cycles that count already.
    return rank(filled + _cycles_up_to(shape, dimension, first)) - rank(filled)


def _places_up_to(shape, dimension, height):
    items = grown(shape)
    return [place for place, (simplex, low) in enumerate(items) if dimension_of(simplex) == dimension and low <= height]


def _bounds_up_to(shape, dimension, height):
    own = own_boundaries(order_of(shape))
    return [own[place] for place in _places_up_to(shape, dimension, height)]


def _cycles_up_to(shape, dimension, height):
    """Return cycles of which all cycles of a dimension up to a height are sums."""
    places = _places_up_to(shape, dimension, height)
    # A boundary that is the sum of others closes a cycle with them.
    told = relations(_bounds_up_to(shape, dimension, height))
    return [tuple([places[index] for index in indexes]) for indexes in told]


def paper_of(order, place):
    """Return a paper on the hole that is born at a position, or None if none is born there."""
    chains = reduced(order)
    for birth, death in pairs_of(order):
        if birth == place:
            return (OPEN, chains[birth]) if death is None else (FILLED, death, chains[death])
    return None


def judge_paper(order, place, paper):
    """Tell whether a value is a paper on the hole that is born at a position."""
    if not isinstance(paper, tuple) or not 2 <= len(paper) <= 3 or not isinstance(paper[0], str):
        return False
    if len(paper) == 3:
        word, death, chain = paper
        return word == FILLED and _is_filling(order, place, death, chain)
    word, chain = paper
    return word == OPEN and _is_open(order, place, chain)


def _is_filling(order, place, death, chain):
    if not is_whole(death) or not is_chain(order, chain) or last_of(chain) != death:
        return False
    return last_of(boundary(order, chain)) == place and not _some_boundary_ends(order, death, place)


def _is_open(order, place, chain):
    if not is_chain(order, chain) or last_of(chain) != place or not is_cycle(order, chain):
        return False
    return not _some_boundary_ends(order, len(order), place)


def _some_boundary_ends(order, count, place):
    """Tell whether the boundary of a chain of so many first positions ends at a position."""
    bounds = own_boundaries(order)[:count]
    # The ranks differ just if a sum of the boundaries has nothing above the position, but has the position.
    return rank(_parts_from(bounds, place)) != rank(_parts_from(bounds, place + 1))


def _parts_from(rows, low):
    return [tuple([part for part in row if part >= low]) for row in rows]


def same_hole(order, first, second, count):
    """Tell whether two cycles of one dimension are of the same hole among so many first simplices."""
    return made_of(own_boundaries(order)[:count], added(first, second)) is not None
