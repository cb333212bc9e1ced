"""The least number for which two lists of bars can be matched, with papers that show it."""

from barstay.matching import MATCHED, judge_matched, judge_short, matched
from barstay.nearness import cost, cost_alone
from barstay.shapes import DIMENSION_MOST

NEAR = "near"
NEVER = "never"


def closest(first, second):
    """Return the closeness of two lists of bars with its papers, or the least dimension for which there is none."""
    for dimension in range(DIMENSION_MOST + 1):
        if _endless(first, dimension) != _endless(second, dimension):
            return (NEVER, dimension)
    number = _least_number(first, second)
    pairs = matched(first, second, number)[1]
    return (NEAR, number, pairs, None if number == 0 else matched(first, second, number - 1)[1:])


def _endless(bars, dimension):
    return len([bar for bar in bars if bar[0] == dimension and bar[2] is None])


def _least_number(first, second):
    # Between two costs nothing changes, and what is matched within a number is so within each greater one.
    numbers = _numbers_of(first, second)
    low, high = 0, len(numbers) - 1
    while low < high:
        middle = (low + high) // 2
        if matched(first, second, numbers[middle])[0] == MATCHED:
            high = middle
        else:
            low = middle + 1
    return numbers[low]


def _numbers_of(first, second):
    """Return 0 and all costs, ascending."""
    costs = [cost(one, other) for one in first for other in second]
    alone = [cost_alone(bar) for bar in first + second]
    return sorted({number for number in [0] + costs + alone if number is not None})


def judge_closest(first, second, number, pairs, short):
    """Tell whether pairs are a matching within a number, and a short paper shows that less is not enough."""
    if not judge_matched(first, second, number, pairs):
        return False
    return short is None if number == 0 else judge_short(first, second, number - 1, short)
