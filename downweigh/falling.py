"""Which of the rows that are left one weighing makes fall, and a mixture that bars the others.

By a weighing a row rises nowhere if it doesn't at the row's corners and along its ways; and it can be lifted to nought
or more ahead of the row if it gets less along no way. So these alone are asked. Each asking is a column, with a place
for each number of the weighing. Balance tells a weighing that makes one of the rows waiting fall, again and again, and
the sum of these makes all fall that can; or it tells shares of steps, which bar all rows that still wait.
"""

from downweigh.balance import AGAINST, balance, unit
from downweigh.cones import worth_at
from downweigh.follows import numbers_of
from downweigh.numbers import NOUGHT, plus, times
from downweigh.tables import shared_by

STEP = "step"
DRIFT = "drift"


def spots_of(program, left):
    """Where the numbers of a place's line stand in a column, for each place at which a row left starts.

    A state at another place goes no step more and may weigh less than nought: each row that leads there falls.
    """
    width = len(program[0]) + 1
    starts = [program[2][row][0] for row in left]
    places = [place for place in range(len(program[1])) if place in starts]
    return {place: at * width for at, place in enumerate(places)}


def column_at(program, spots, row, kind, vector):
    """The column of a step by a row, at a corner or along a way, or of a drift, which goes ahead of the row alone."""
    width = len(program[0]) + 1
    start, to, wishes = program[2][row]
    column = [0] * (len(spots) * width)
    for at, number in enumerate(vector[:width]):
        column[spots[start] + at] += number
    if kind == STEP:
        for at, number in enumerate([vector[0], *vector[width:]]):
            column[spots[to] + at] -= number
    return column


def askings_of(program, left, shapes, spots):
    """All that is asked of a weighing for the rows left: tuples (row, kind, vector, column)."""
    asked = []
    for row in left:
        corners, ways = shapes[row]
        if program[2][row][1] in spots:
            asked.extend([(row, STEP, vector) for vector in corners + ways])
        asked.extend([(row, DRIFT, vector) for vector in ways])
    told = [(row, kind, vector, column_at(program, spots, row, kind, vector)) for row, kind, vector in asked]
    return [asking for asking in told if asking[2][0] > 0 or any(asking[3])]


def columns_for(askings, width, waiting):
    """The columns, with a place more for each row waiting, at which it is counted how far it falls."""
    columns = []
    for row, kind, vector, column in askings:
        columns.append(column + [-vector[0] if row == other else 0 for other in waiting])
    many = len(waiting)
    return columns + [unit(width + many, width + at) for at in range(many)]


def corner_columns(askings, row):
    """The columns of a row's steps at its corners, each with the corner's plain number."""
    return [(column, vector[0]) for number, kind, vector, column in askings if number == row and vector[0] > 0]


def weighed(askings, width, waiting):
    """Weights by which all rows waiting fall that can, the rows that wait still, and shares that bar these."""
    weights = [0] * width
    while waiting != []:
        word, told = balance(columns_for(askings, width, waiting), [0] * width + [-1] * len(waiting))
        if word != AGAINST:
            return (weights, waiting, told)
        weights = [one + other for one, other in zip(weights, told)]
        waiting = [
            row for row in waiting
            if not all([worth_at(column, weights) > 0 for column, plain in corner_columns(askings, row)])
        ]
    return (weights, [], [])


def shortened(weights, width):
    """The weights with the first plain number nought, as short as can be: what falls by them falls still."""
    low = weights[0]
    told = [number - low if at % width == 0 else number for at, number in enumerate(weights)]
    if not any(told):
        return told
    shared = shared_by(told)
    return [number // shared for number in told]


def made_steep(weights, askings, falling):
    """The weights so many times as great that each of the rows that fall does so by one or more."""
    by = 1
    for row in falling:
        for column, plain in corner_columns(askings, row):
            by = max(by, -(-plain // worth_at(column, weights)))
    return [by * number for number in weights]


def lines_of(weights, program, spots):
    """The weighing of weights: a line for each place, less than nought where no row starts."""
    width = len(program[0]) + 1
    told = []
    for place in range(len(program[1])):
        spot = spots.get(place, None)
        told.append([-1] + [0] * (width - 1) if spot is None else weights[spot:spot + width])
    return told


def lifted(weighing, program, left, shapes, spots):
    """The weighing lifted, or let down, to where it is just nought or more ahead of all rows left."""
    lows = []
    for row in left:
        line = weighing[program[2][row][0]]
        lows.extend([worth_at(line, corner) // corner[0] for corner in shapes[row][0]])
    low = min(lows)
    return [[line[0] - low, *line[1:]] if place in spots else line for place, line in enumerate(weighing)]


def sum_of(askings, shares, row, kind, width):
    """The corners and ways of a row that are asked of in one kind, each times its share, together."""
    told = [NOUGHT] * width
    for (number, other, vector, column), share in zip(askings, shares):
        if number == row and other == kind and share != NOUGHT:
            told = [plus(sofar, times((part, 1), share)) for sofar, part in zip(told, vector)]
    return told


def mixture_by(askings, shares, program, left, shapes):
    """The mixture over the rows left of shares of all that is asked."""
    size = len(program[0])
    told = []
    for row in left:
        step = sum_of(askings, shares, row, STEP, 2 * size + 1)
        drift = sum_of(askings, shares, row, DRIFT, 2 * size + 1)
        corners, ways = shapes[row]
        goes = numbers_of(corners[0])
        told.append((
            row, step[0], step[1:size + 1], step[size + 1:],
            (drift[1:size + 1], drift[size + 1:]), (goes[:size], goes[size:]),
        ))
    return told


def made_fall(program, left, shapes):
    """The rows left that fall by a weighing, all that can, the weighing, and a mixture that bars the others.

    None is told in the stead of the weighing where none falls, and of the mixture where none is left.
    """
    spots = spots_of(program, left)
    width = len(program[0]) + 1
    askings = askings_of(program, left, shapes, spots)
    ringed = [row for row in left if program[2][row][1] in spots]
    weights, barred, shares = weighed(askings, len(spots) * width, ringed)
    falling = [row for row in left if row not in barred]
    mixture = mixture_by(askings, shares, program, left, shapes) if barred != [] else None
    if falling == []:
        return ([], None, mixture)
    weights = made_steep(shortened(weights, width), askings, [row for row in falling if row in ringed])
    weighing = lifted(lines_of(weights, program, spots), program, left, shapes, spots)
    return (falling, weighing, mixture)
