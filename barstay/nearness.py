"""How near two bars are, and which bars need a partner for a number."""


def cost(one, other):
    """Return the cost of two bars, or None if it is not defined."""
    dimension, birth, death = one
    other_dimension, other_birth, other_death = other
    if dimension != other_dimension or (death is None) != (other_death is None):
        return None
    if death is None:
        return 2 * abs(birth - other_birth)
    return 2 * max(abs(birth - other_birth), abs(death - other_death))


def cost_alone(bar):
    """Return the cost of a bar alone, or None if it is not defined."""
    _, birth, death = bar
    return None if death is None else death - birth


def is_bound(bar, number):
    """Tell whether a bar needs a partner for a number."""
    return not _is_within(cost_alone(bar), number)


def are_partners(one, other, number):
    """Tell whether two bars are partners for a number."""
    return _is_within(cost(one, other), number)


def partners(bar, others, number):
    """Return the indexes, ascending, of the partners of a bar in a list of bars."""
    return [index for index, other in enumerate(others) if are_partners(bar, other, number)]


def _is_within(price, number):
    return price is not None and price <= number
