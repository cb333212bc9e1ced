"""An order of which the pairs are kept while simplices are put, dropped and swapped."""

from barstay.chains import added, last_of, pairs_by
from barstay.errors import BadOrder, BadSwap
from barstay.shapes import ITEMS_MOST, faces_of, is_simplex


class Kept:
    """An order with right chains, whose boundaries tell its pairs."""

    def __init__(self, order):
        self._order = []
        # The boundaries stand beside the chains, so that a swap has to change only some of them.
        self._chains = []
        self._bounds = []
        for simplex in order:
            self.put(simplex)

    def order(self):
        """Return the list of the simplices."""
        return list(self._order)

    def pairs(self):
        """Return the list of the pairs of positions, by births."""
        return pairs_by(self._bounds)

    def chains(self):
        """Return a list of right chains."""
        return list(self._chains)

    def put(self, simplex):
        """Put a simplex behind the others, or raise BadOrder with their number."""
        place = len(self._order)
        if not self._can_stand(simplex):
            raise BadOrder(place)
        bound = sorted([self._order.index(face) for face in faces_of(simplex)])
        self._order.append(simplex)
        self._chains.append((place,))
        self._bounds.append(tuple(bound))
        self._part_ends()

    def drop(self):
        """Take the last simplex away and return it, or raise BadOrder with the place 0 if there is none."""
        if not self._order:
            raise BadOrder(0)
        # The last position stands in no other chain and in no boundary.
        self._chains.pop()
        self._bounds.pop()
        return self._order.pop()

    def swap(self, place):
        """Swap a simplex and the next one, and return the new pairs of simplices, or raise BadSwap with the place."""
        if not self._can_be_swapped(place):
            raise BadSwap(place)
        before = self._pairs_of_simplices()
        self._exchange(place)
        # The chain of the simplex that stood behind may have the other one, which is now too late for it.
        if place + 1 in self._chains[place]:
            self._add_chain(place + 1, place)
        self._part_ends()
        return [pair for pair in self._pairs_of_simplices() if pair not in before]

    def _can_stand(self, simplex):
        if len(self._order) >= ITEMS_MOST or not is_simplex(simplex) or simplex in self._order:
            return False
        return all([face in self._order for face in faces_of(simplex)])

    def _can_be_swapped(self, place):
        if not 0 <= place < len(self._order) - 1:
            return False
        return self._order[place] not in faces_of(self._order[place + 1])

    def _pairs_of_simplices(self):
        named = self._order
        return [(named[birth], None if death is None else named[death]) for birth, death in self.pairs()]

    def _exchange(self, place):
        self._order = _turned(self._order, place)
        self._chains = [_renumbered(chain, place) for chain in _turned(self._chains, place)]
        self._bounds = [_renumbered(bound, place) for bound in _turned(self._bounds, place)]

    def _add_chain(self, other, place):
        """Add the chain for another position to the chain for a position."""
        self._chains[place] = added(self._chains[place], self._chains[other])
        self._bounds[place] = added(self._bounds[place], self._bounds[other])

    def _part_ends(self):
        """Add chains to later ones until no two boundaries end at the same position."""
        holders = {}
        for place in range(len(self._order)):
            # Each sum ends further ahead than the boundary did, so this comes to an end.
            while last_of(self._bounds[place]) in holders:
                self._add_chain(holders[last_of(self._bounds[place])], place)
            if self._bounds[place] != ():
                holders[last_of(self._bounds[place])] = place


def _turned(rows, place):
    """Return rows with the one at a position and the next one exchanged."""
    return rows[:place] + [rows[place + 1], rows[place]] + rows[place + 2:]


def _renumbered(chain, place):
    """Return a chain with a position and the next one in the place of each other."""
    numbers = {place: place + 1, place + 1: place}
    return tuple(sorted([numbers.get(part, part) for part in chain]))
