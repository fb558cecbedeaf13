"""Ranks: weighings one behind the other, by which rows fall, with shares that show it."""

from downweigh.follows import minus_one
from downweigh.forms import is_rising
from downweigh.numbers import is_whole
from downweigh.programs import look_at
from downweigh.shares import carries
from downweigh.sides import line_ahead
from downweigh.weighings import fall_by, is_weighing


def rows_that_go(program, thing):
    """The rows but those that anything shows never to go; None where it is no such list."""
    names, places, rows = program
    if not isinstance(thing, list) or not all([isinstance(one, tuple) and len(one) == 2 for one in thing]):
        return None
    still = [row for row, shares in thing]
    if not is_rising(len(rows), still):
        return None
    if not all([carries(rows[row][2], minus_one(2 * len(names)), shares) for row, shares in thing]):
        return None
    return [row for row in range(len(rows)) if row not in still]


def fall_asked(way, weighing, falls):
    """The line that the shares of a row's fall must carry: the fall, less 1 where the row falls."""
    line = fall_by(way, weighing)
    return [line[0] - 1, *line[1:]] if falls else line


def lets_entry(program, weighing, row, thing):
    """Whether anything is a rank's entry for a row."""
    if not isinstance(thing, tuple) or len(thing) != 4:
        return False
    number, falls, fall, bound = thing
    if not is_whole(number) or number != row or not isinstance(falls, bool):
        return False
    way = program[2][row]
    if not carries(way[2], fall_asked(way, weighing, falls), fall):
        return False
    return carries(way[2], line_ahead(weighing[way[0]]), bound)


def left_behind(program, left, thing):
    """The rows of those left that don't fall in a rank; None where anything is no rank for those left."""
    if not isinstance(thing, tuple) or len(thing) != 2:
        return None
    weighing, entries = thing
    if not is_weighing(program, weighing) or not isinstance(entries, list) or len(entries) != len(left):
        return None
    if not all([lets_entry(program, weighing, row, entry) for row, entry in zip(left, entries)]):
        return None
    return [row for row, entry in zip(left, entries) if not entry[1]]


def left_by(program, never, ranks):
    """The rows that are left behind all ranks; None where anything is not never and ranks."""
    look_at(program)
    left = rows_that_go(program, never)
    if left is None or not isinstance(ranks, list):
        return None
    for rank in ranks:
        left = left_behind(program, left, rank)
        if left is None:
            return None
    return left


def lets_ranks(program, never, ranks):
    """Whether ranks leave no row."""
    return left_by(program, never, ranks) == []
