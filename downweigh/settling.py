"""Settled: ranks in which all rows fall, as few as there can be, or the rows that no weighing makes fall."""

from downweigh.balance import SHARES
from downweigh.cones import corners_and_ways
from downweigh.falling import made_fall
from downweigh.follows import follows_where, granted
from downweigh.programs import look_at
from downweigh.ranks import fall_asked
from downweigh.sides import line_ahead

ENDS = "ends"
LEFT = "left"


def parted(program):
    """The rows that never go, with shares for it, and numbers by which each of the others does."""
    never = []
    goes = {}
    for row, (start, to, wishes) in enumerate(program[2]):
        word, told = granted(2 * len(program[0]), wishes)
        if word == SHARES:
            never.append((row, told))
        else:
            goes[row] = told
    return (never, goes)


def stages_of(program, left):
    """What is found rank by rank, until no row is left or none falls: tuples (left, falling, weighing, mixture)."""
    many = 2 * len(program[0])
    shapes = {row: corners_and_ways(many, program[2][row][2]) for row in left}
    stages = []
    while left != []:
        falling, weighing, mixture = made_fall(program, left, shapes)
        stages.append((left, falling, weighing, mixture))
        if falling == []:
            return stages
        left = [row for row in left if row not in falling]
    return stages


def entry_of(program, weighing, row, falls, numbers):
    """A rank's entry for a row, which goes by numbers."""
    way = program[2][row]
    start, to, wishes = way
    many = 2 * len(program[0])
    fall = follows_where(many, wishes, fall_asked(way, weighing, falls), numbers)[1]
    bound = follows_where(many, wishes, line_ahead(weighing[start]), numbers)[1]
    return (row, falls, fall, bound)


def rank_of(program, stage, goes):
    """The rank of a stage in which rows fall."""
    left, falling, weighing, mixture = stage
    entries = [entry_of(program, weighing, row, row in falling, goes[row]) for row in left]
    return (weighing, entries)


def settled(program):
    """Tells how a program is settled: a tuple (word, never, ranks, mixtures)."""
    look_at(program)
    never, goes = parted(program)
    stages = stages_of(program, list(goes))
    ranks = [rank_of(program, stage, goes) for stage in stages if stage[1] != []]
    mixtures = [stage[3] for stage in stages if stage[3] is not None]
    word = LEFT if len(mixtures) > len(ranks) else ENDS
    return (word, never, ranks, mixtures)


def sets_of(program):
    """The rows that never go, those that fall at each rank, and those that are left at last."""
    look_at(program)
    never, goes = parted(program)
    stages = stages_of(program, list(goes))
    ranks = [falling for left, falling, weighing, mixture in stages if falling != []]
    left = [row for row in goes if not any([row in falling for falling in ranks])]
    return ([row for row, shares in never], ranks, left)
