"""A shape at its heights: what is there, how many parts, and what stands above."""

from barstay.shapes import dimension_of


def heights_of(shape):
    """Return the different heights of a shape, ascending."""
    return sorted({height for simplex, height in shape})


def shape_at(shape, height):
    """Return the items of a shape that are there at a height, in their sequence."""
    return [item for item in shape if item[1] <= height]


def counts_of(shape):
    """Return the tuple of the numbers of vertices, edges and triangles."""
    dimensions = [dimension_of(simplex) for simplex, height in shape]
    return (dimensions.count(0), dimensions.count(1), dimensions.count(2))


def euler_of(shape):
    """Return Euler's number of a shape."""
    vertices, edges, triangles = counts_of(shape)
    return vertices - edges + triangles


def euler_steps(shape):
    """Return for each height of a shape, ascending, the height and Euler's number at it."""
    return [(height, euler_of(shape_at(shape, height))) for height in heights_of(shape)]


def lowest_above(shape, simplices):
    """Return, ascending, the simplices of a shape that contain one of some simplices."""
    return sorted([simplex for simplex, height in shape if _contains_one(simplex, simplices)])


def _contains_one(simplex, others):
    return any([_contains(simplex, other) for other in others])


def _contains(simplex, other):
    return all([vertex in simplex for vertex in other])
