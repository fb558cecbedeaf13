"""Mixtures: steps of rows put together so that no weighing can fall by them."""

from downweigh.forms import is_rising
from downweigh.numbers import NOUGHT, is_fraction, is_whole, plus
from downweigh.programs import look_at
from downweigh.wishes import comes_to, grants, is_numbers


def total(fractions):
    """All fractions together."""
    told = NOUGHT
    for one in fractions:
        told = plus(told, one)
    return told


def is_pair(many, thing):
    """Whether anything is a tuple of two lists of so many fractions."""
    return isinstance(thing, tuple) and len(thing) == 2 and all([is_numbers(many, side) for side in thing])


def lets_part(program, row, thing):
    """Whether anything is a mixture's tuple for a row, looked at by itself."""
    if not isinstance(thing, tuple) or len(thing) != 6:
        return False
    number, many, ahead, behind, drift, goes = thing
    if not is_whole(number) or number != row or not is_fraction(many) or many[0] < 0:
        return False
    size = len(program[0])
    if not is_pair(size, (ahead, behind)) or not is_pair(size, drift) or not is_pair(size, goes):
        return False
    wishes = program[2][row][2]
    if not grants(wishes, goes[0] + goes[1]) or not comes_to(wishes, many, ahead + behind):
        return False
    return comes_to(wishes, NOUGHT, drift[0] + drift[1])


def evens_out(program, mixture, place):
    """Whether as much comes in at a place as goes out there: of many, and of each number."""
    names, places, rows = program
    out = [part for part in mixture if rows[part[0]][0] == place]
    into = [part for part in mixture if rows[part[0]][1] == place]
    if total([part[1] for part in out]) != total([part[1] for part in into]):
        return False
    for at in range(len(names)):
        less = total([plus(part[2][at], part[4][0][at]) for part in out])
        if less != total([part[3][at] for part in into]):
            return False
    return True


def lets_mixture(program, rows, thing):
    """Whether anything is a mixture over anything as rows."""
    look_at(program)
    if not is_rising(len(program[2]), rows) or rows == [] or not isinstance(thing, list) or len(thing) != len(rows):
        return False
    if not all([lets_part(program, row, part) for row, part in zip(rows, thing)]):
        return False
    return all([evens_out(program, thing, place) for place in range(len(program[1]))])


def barred(mixture):
    """The rows that a mixture bars."""
    return [part[0] for part in mixture if part[1][0] > 0]
