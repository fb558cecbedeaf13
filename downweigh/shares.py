"""Shares: how much of each wish is taken, so that together they carry a line."""

from downweigh.numbers import NOUGHT, is_below, is_fraction, plus, times
from downweigh.wishes import LEAST


def is_shares(wishes, thing):
    """Whether anything is shares for wishes."""
    if not isinstance(thing, list) or len(thing) != len(wishes):
        return False
    if not all([is_fraction(share) for share in thing]):
        return False
    return all([word != LEAST or share[0] >= 0 for (word, line), share in zip(wishes, thing)])


def added_over(wishes, shares, width):
    """What shares add up to over lines of a width, also where there are no wishes."""
    total = [NOUGHT for place in range(width)]
    for (word, line), share in zip(wishes, shares):
        total = [plus(sofar, times((number, 1), share)) for sofar, number in zip(total, line)]
    return total


def added(wishes, shares):
    """What shares add up to, for one wish or more: a fraction for each place of the lines."""
    return added_over(wishes, shares, max([len(line) for word, line in wishes], default=0))


def carries(wishes, line, thing):
    """Whether anything is shares for wishes that carry a line."""
    if not is_shares(wishes, thing):
        return False
    total = added_over(wishes, thing, len(line))
    if total[1:] != [(factor, 1) for factor in line[1:]]:
        return False
    return not is_below((line[0], 1), total[0])
