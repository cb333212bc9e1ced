"""Orders, shapes and values that several tests use."""

from itertools import combinations
from random import Random


def with_faces(tops):
    """Return some simplices and all that lies in them, by dimensions."""
    parts = {part for top in tops for size in range(1, len(top) + 1) for part in combinations(top, size)}
    return sorted(parts, key=lambda part: (len(part), part))


def shuffled(simplices, seed):
    """Return an order of some simplices that has nothing to do with dimensions."""
    source = Random(seed)
    left, order = list(simplices), []
    while left:
        ready = [part for part in left if all(
            face in order for face in combinations(part, len(part) - 1) if face)]
        order.append(source.choice(ready))
        left.remove(order[-1])
    return order


def all_chains(order, below=None):
    """Return all chains of an order, or of its first simplices."""
    many = len(order) if below is None else below
    chains = [()]
    for size in (1, 2, 3):
        places = [place for place in range(many) if len(order[place]) == size]
        chains += [part for count in range(1, len(places) + 1) for part in combinations(places, count)]
    return chains


def plain_boundary(order, chain):
    """Return the boundary of a chain, counted face by face."""
    faces = [face for place in chain for face in combinations(order[place], len(order[place]) - 1) if face]
    return tuple(place for place, part in enumerate(order) if faces.count(part) % 2 == 1)


RING = [(0,), (1,), (2,), (0, 1), (1, 2), (0, 2), (0, 1, 2)]
# Two rings at one vertex, the second one with its triangle, and a part of its own.
EIGHT = with_faces([(0, 1), (1, 2), (0, 2), (2, 3, 4), (5,)])
BALL = with_faces(combinations(range(4), 3))
# The projective plane: all its triangles are a cycle only because an odd number counts, not a sign.
PLANE = with_faces([(0, 1, 4), (0, 1, 5), (0, 2, 3), (0, 2, 5), (0, 3, 4),
                    (1, 2, 3), (1, 2, 4), (1, 3, 5), (2, 4, 5), (3, 4, 5)])
TORUS = with_faces(sorted(sorted([k, (k + step) % 7, (k + 3) % 7]) for k in range(7) for step in (1, 2)))
SIXTY = with_faces(list(combinations(range(12), 2))[:48])
NAMED = {"empty": [], "ring": RING, "eight": EIGHT, "ball": BALL, "plane": PLANE, "torus": TORUS, "sixty": SIXTY}
SMALL = [RING, EIGHT] + [shuffled(part, seed) for part in (RING, EIGHT) for seed in range(4)]
ORDERS = list(NAMED.values()) + [shuffled(part, seed) for part in NAMED.values() for seed in range(3)]
# A tuple within a tuple, many times over.
NESTED = (0,)
for _ in range(5000):
    NESTED = (NESTED,)
# Values that are no chains of any order.
STRANGE = [None, True, False, 0, 3, "", "0", "ab", [], [0], [[0]], ((),), ((0,),), ([0],), (None,), ("0",), ("",)]


def heights_for(order, seed):
    """Return a shape whose order of growing an order nearly is: heights go up along it, often not at all."""
    source = Random(seed)
    height, shape = source.randrange(-9, 3), []
    for simplex in order:
        shape.append((simplex, height))
        height += source.choice((0, 0, 1, 2))
    return shape
