"""Fractions: tuples (top, bottom) in lowest terms, the bottom from 1 on."""

from downweigh.errors import ByNought, NoNumber, NoText
from downweigh.figures import in_figures, is_figures, of_figures

NOUGHT = (0, 1)
ONE = (1, 1)


def is_whole(thing):
    """Whether anything is a whole number: True and False are none."""
    return isinstance(thing, int) and not isinstance(thing, bool)


def common(one, other):
    """The greatest whole number that divides both; 0 where both are nought."""
    while other != 0:
        one, other = other, one % other
    return abs(one)


def is_fraction(thing):
    """Whether anything is a fraction."""
    if not isinstance(thing, tuple) or len(thing) != 2:
        return False
    top, bottom = thing
    if not is_whole(top) or not is_whole(bottom) or bottom < 1:
        return False
    return common(top, bottom) == 1


def lowest(top, bottom):
    """The fraction of two whole numbers, the second one not nought."""
    shared = common(top, bottom)
    if bottom < 0:
        shared = -shared
    return (top // shared, bottom // shared)


def fraction(top, bottom=1):
    """The fraction of anything that is two whole numbers, the second one not nought."""
    if not is_whole(top):
        raise NoNumber(top)
    if not is_whole(bottom) or bottom == 0:
        raise NoNumber(bottom)
    return lowest(top, bottom)


def plus(one, other):
    """The sum."""
    return lowest(one[0] * other[1] + other[0] * one[1], one[1] * other[1])


def minus(one, other):
    """The first one less the other one."""
    return lowest(one[0] * other[1] - other[0] * one[1], one[1] * other[1])


def times(one, other):
    """The product."""
    return lowest(one[0] * other[0], one[1] * other[1])


def over(one, other):
    """The quotient."""
    if other[0] == 0:
        raise ByNought("nothing is divided by nought")
    return lowest(one[0] * other[1], one[1] * other[0])


def is_below(one, other):
    """Whether the first one is below the other one."""
    return one[0] * other[1] < other[0] * one[1]


def whole_part(one):
    """The greatest whole number that is not above it."""
    return one[0] // one[1]


def shown(one):
    """Its text: `TOP`, or `TOP/BOTTOM` where the bottom is not 1."""
    if one[1] == 1:
        return in_figures(one[0])
    return f"{in_figures(one[0])}/{in_figures(one[1])}"


def read_fraction(text):
    """The fraction that a text writes; of anything."""
    if not isinstance(text, str):
        raise NoText(0)
    top, slash, bottom = text.partition("/")
    if slash == "":
        bottom = "1"
    below = top.startswith("-")
    if not is_figures(top[1:] if below else top) or not is_figures(bottom) or bottom == "0":
        raise NoText(0)
    size = of_figures(top[1:] if below else top)
    read = lowest(-size if below else size, of_figures(bottom))
    # `-0`, `1/1` and `2/4` are figures, too, but no fraction is written so
    if shown(read) != text:
        raise NoText(0)
    return read
