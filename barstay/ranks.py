"""Sums of rows: which rows are sums of rows before them, and of which ones."""

from barstay.chains import added, last_of


def rank(rows):
    """Return the rank of rows."""
    return len(rows) - len(relations(rows))


def relations(rows):
    """Return for each dependent row the indexes of the rows that are not dependent and make it, and its own one."""
    return [indexes for rest, indexes in sifted(rows) if rest == ()]


def made_of(rows, target):
    """Return the indexes of rows, none of them dependent, whose sum is a target, or None if there are none."""
    rest, indexes = _cleared(target, sifted(rows))
    return indexes if rest == () else None


def sifted(rows):
    """Return for each row what is left of it behind the rows before it, and the indexes of the rows whose sum this is.

    What is left has none of the last integers that are left of the rows before it. The indexes are the own one, at
    the end, and some of rows that are not dependent. What is left of a dependent row is ().
    """
    steps = []
    for index, row in enumerate(rows):
        rest, others = _cleared(row, steps)
        steps.append((rest, added(others, (index,))))
    return steps


def _cleared(row, steps):
    """Return a row without the ends of what is left of others, and the indexes of the rows that clear it."""
    rest = row
    indexes = ()
    for left, made in steps:
        # What is left of a row has no end of one before it, so no end that is gone comes back. () has no end.
        if left != () and last_of(left) in rest:
            rest = added(rest, left)
            indexes = added(indexes, made)
    return rest, indexes
