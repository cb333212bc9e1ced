"""Matchings of bars as point 5.2 says it, word by word, and lists of bars to match."""

from itertools import combinations
from random import Random


def plain_cost(one, other):
    if one[0] != other[0] or (one[2] is None) is not (other[2] is None):
        return None
    differences = [abs(one[at] - other[at]) for at in (1, 2) if one[at] is not None]
    return 2 * max(differences)


def plain_cost_alone(bar):
    return None if bar[2] is None else bar[2] - bar[1]


def all_matchings(first, second, at=0, used=()):
    """Return all matchings of first from an index on with what is left of second."""
    if at == len(first):
        return [()]
    found = list(all_matchings(first, second, at + 1, used))
    for other in range(len(second)):
        if other not in used and plain_cost(first[at], second[other]) is not None:
            found += [((at, other), *rest) for rest in all_matchings(first, second, at + 1, (*used, other))]
    return found


def need_of(first, second, pairs):
    """Return the least number within which a matching is, or None if it is so within none."""
    lone = [bar for at, bar in enumerate(first) if at not in [low for low, _ in pairs]]
    lone += [bar for at, bar in enumerate(second) if at not in [high for _, high in pairs]]
    costs = [plain_cost(first[low], second[high]) for low, high in pairs] + [plain_cost_alone(bar) for bar in lone]
    return None if None in costs else max(costs, default=0)


def is_matching_within(first, second, number, pairs):
    """Tell whether a list of pairs of indexes is a matching within a number."""
    if len({low for low, _ in pairs}) < len(pairs) or len({high for _, high in pairs}) < len(pairs):
        return False
    if any(plain_cost(first[low], second[high]) is None for low, high in pairs):
        return False
    need = need_of(first, second, pairs)
    return need is not None and need <= number


def is_short_within(first, second, number, side, indexes):
    """Tell whether some different indexes of a side are a short paper for a number."""
    bars, others = (first, second) if side == 0 else (second, first)
    alone = [plain_cost_alone(bars[index]) for index in indexes]
    if any(price is not None and price <= number for price in alone):
        return False
    costs = [[plain_cost(bars[index], other) for index in indexes] for other in others]
    return len([row for row in costs if any(price is not None and price <= number for price in row)]) < len(indexes)


def all_shorts(first, second, number):
    """Return all short papers for a number, with ascending indexes."""
    found = []
    for side, bars in ((0, first), (1, second)):
        for many in range(1, len(bars) + 1):
            found += [(side, list(part)) for part in combinations(range(len(bars)), many)
                      if is_short_within(first, second, number, side, part)]
    return found


def some_bars(seed, many, width=6, endless=1, dimensions=2):
    """Return bars of few dimensions and heights, so that equal and near ones are among them."""
    source, bars = Random(seed), []
    for _ in range(many):
        birth = source.randrange(-width, width)
        bars.append((source.randrange(dimensions), birth, birth + source.randrange(1, width)))
    for _ in range(endless):
        bars.append((source.randrange(dimensions), source.randrange(-width, width), None))
    source.shuffle(bars)
    return bars


def small_lists():
    """Return pairs of short lists of bars, among them with equal bars, without bars, and of other numbers of bars."""
    lists = [(some_bars(seed, seed % 4, 4, seed % 3, 1), some_bars(seed + 500, seed % 5, 4, seed % 2, 1))
             for seed in range(30)]
    lists += [(some_bars(seed, seed % 4, 4, 1, 1), some_bars(seed + 700, (seed + 2) % 4, 4, 1, 1))
              for seed in range(40)]
    lists += [(some_bars(seed, 3, 5, 0), some_bars(seed + 900, 3, 5, 0)) for seed in range(20)]
    lists += [([], []), ([], [(0, 1, 4)]), ([(0, 1, 4)], []), ([], [(1, 2, None)]), ([(1, 2, None)], []),
              ([(0, 0, 9)] * 3, [(0, 0, 9)] * 2), ([(0, 0, 9)] * 2, [(0, 1, 9)] * 4), ([(0, 0, 3)], [(1, 0, 3)]),
              ([(0, 0, None)] * 2, [(0, 5, None)] * 2), ([(0, 0, None), (1, 0, None)], [(1, 3, None), (0, -3, None)])]
    return lists
