"""Matchings of two lists of bars within a number, short papers, and judges of both."""

from barstay.nearness import are_partners, is_bound, partners
from barstay.shapes import is_whole

MATCHED = "matched"
SHORT = "short"


def matched(first, second, number):
    """Return the pairs of a matching within a number, or a short paper if there is none."""
    mates, short = _with_partners({}, first, second, number)
    if short is not None:
        return (SHORT, 0, short)
    mates, short = _with_partners(_turned(mates), second, first, number)
    if short is not None:
        return (SHORT, 1, short)
    return (MATCHED, sorted([(low, high) for high, low in mates.items()]))


def _turned(mates):
    return {other: own for own, other in mates.items()}


def _with_partners(mates, bars, others, number):
    """Give a mate to each bar that needs a partner; return the mates and None, or None and indexes that are short.

    Mates are a dict from indexes of bars to indexes of others. An other that has a mate keeps one.
    """
    near = [partners(bar, others, number) for bar in bars]
    bound = [is_bound(bar, number) for bar in bars]
    for start in range(len(bars)):
        if bound[start] and start not in mates:
            reached, ways, goal = _search(start, near, bound, _turned(mates))
            if goal is None:
                return None, sorted(reached)
            mates = _shifted(mates, ways, goal)
    return mates, None


def _search(start, near, bound, holders):
    """Seek, from a bar to its partners and on to their holders, a partner that can be had: the goal.

    It has no holder, or one that needs no partner. Return the bars reached, the partners reached with the bar ahead of
    each, and the goal. Without a goal it is None; then the bars reached are short: all of them need a partner, and each
    partner of theirs is held by one of them that is not the start.
    """
    reached = [start]
    ways = {}
    at = 0
    while at < len(reached):
        own = reached[at]
        at += 1
        for other in near[own]:
            if other not in ways:
                ways[other] = own
                if other not in holders or not bound[holders[other]]:
                    return reached, ways, other
                reached.append(holders[other])
    return reached, ways, None


def _shifted(mates, ways, goal):
    """Return mates in which each bar on the way to the goal has the partner behind it; who held the goal is alone."""
    now = {own: mates[own] for own in mates if mates[own] != goal}
    other = goal
    while other is not None:
        own = ways[other]
        before = now.get(own)
        now[own] = other
        other = before
    return now


def judge_matched(first, second, number, pairs):
    """Tell whether a value is the list of the pairs of a matching within a number."""
    if not isinstance(pairs, list) or not all([_is_pair(pair, first, second) for pair in pairs]):
        return False
    own = [low for low, high in pairs]
    others = [high for low, high in pairs]
    if _has_twice(own) or _has_twice(others):
        return False
    if not all([are_partners(first[low], second[high], number) for low, high in pairs]):
        return False
    return _others_need_none(first, own, number) and _others_need_none(second, others, number)


def _is_pair(value, first, second):
    return isinstance(value, tuple) and len(value) == 2 and _is_index(value[0], first) and _is_index(value[1], second)


def _is_index(value, bars):
    return is_whole(value) and 0 <= value < len(bars)


def _has_twice(indexes):
    return len(set(indexes)) != len(indexes)


def _others_need_none(bars, indexes, number):
    """Tell whether all bars but those at some indexes need no partner."""
    return not any([is_bound(bar, number) for index, bar in enumerate(bars) if index not in indexes])


def judge_short(first, second, number, paper):
    """Tell whether a value is a short paper for a number."""
    if not isinstance(paper, tuple) or len(paper) != 2:
        return False
    side, indexes = paper
    if not is_whole(side) or not isinstance(indexes, list) or not 0 <= side <= 1:
        return False
    bars, others = (first, second) if side == 0 else (second, first)
    if not all([_is_index(index, bars) for index in indexes]) or _has_twice(indexes):
        return False
    if not all([is_bound(bars[index], number) for index in indexes]):
        return False
    return len({other for index in indexes for other in partners(bars[index], others, number)}) < len(indexes)
