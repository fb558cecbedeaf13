"""Rounds: rings of rows that can be gone round again and again without end."""

from downweigh.errors import NoNumber, NoRing, NoRound
from downweigh.follows import NUMBERS, along, granted_over
from downweigh.forms import is_one_of
from downweigh.mixtures import total
from downweigh.numbers import NOUGHT, is_whole, minus
from downweigh.programs import look_at
from downweigh.wishes import comes_to, grants, is_numbers

LONGEST = 6
MOST_IN_RING = 12
MOST_LAPS = 60


def is_closed(program, rows):
    """Whether each of some rows leads to the next one's start, the last one to the first one's."""
    ways = [program[2][row] for row in rows]
    return all([one[1] == other[0] for one, other in zip(ways, ways[1:] + ways[:1])])


def is_ring(program, thing):
    """Whether anything is a ring."""
    if not isinstance(thing, list) or len(thing) < 1 or len(thing) > MOST_IN_RING:
        return False
    return all([is_one_of(len(program[2]), row) for row in thing]) and is_closed(program, thing)


def is_lists(many, size, thing):
    """Whether anything is a list of so many lists of fractions, each of a size."""
    return isinstance(thing, list) and len(thing) == many and all([is_numbers(size, one) for one in thing])


def goes_round(program, told):
    """Whether states are gone through by the rows of a ring, and drifts are added to them lap by lap."""
    rows, states, drifts = told
    for at, row in enumerate(rows):
        wishes = program[2][row][2]
        if not grants(wishes, states[at] + states[at + 1]):
            return False
        if not comes_to(wishes, NOUGHT, drifts[at] + drifts[at + 1]):
            return False
    return drifts[0] == drifts[-1] == [minus(last, first) for first, last in zip(states[0], states[-1])]


def is_round(program, thing):
    """Whether anything is a round."""
    if not isinstance(thing, tuple) or len(thing) != 3:
        return False
    rows, states, drifts = thing
    if not is_ring(program, rows):
        return False
    size = len(program[0])
    if not is_lists(len(rows) + 1, size, states) or not is_lists(len(rows) + 1, size, drifts):
        return False
    return goes_round(program, thing)


def lets_round(program, thing):
    """Whether anything is a round of a program."""
    look_at(program)
    return is_round(program, thing)


def look_at_round(program, thing):
    """Refuses anything but a round of a program."""
    if not is_round(program, thing):
        raise NoRound("this is no round of the program")


def gone(program, round_told, *, laps=1):
    """All states from the first one of a round to that behind so many laps."""
    look_at(program)
    look_at_round(program, round_told)
    if not is_whole(laps) or laps < 0 or laps > MOST_LAPS:
        raise NoNumber(laps)
    rows, states, drifts = round_told
    places = [program[2][row][0] for row in rows]
    told = []
    for lap in range(laps):
        told.extend([(place, along(states[at], drifts[at], lap)) for at, place in enumerate(places)])
    return [*told, (places[0], along(states[0], drifts[0], laps))]


def summed(lists, size):
    """All lists of fractions of a size together, number by number."""
    return [total([one[at] for one in lists]) for at in range(size)]


def part_for(round_told, row, size):
    """A row's part in the mixture of a round."""
    rows, states, drifts = round_told
    spots = [at for at, other in enumerate(rows) if other == row]
    ahead = summed([states[at] for at in spots], size)
    behind = summed([states[at + 1] for at in spots], size)
    # what one lap adds goes out where the round begins, and at no other place
    drift = (list(drifts[0]), list(drifts[1])) if row == rows[0] else ([NOUGHT] * size, [NOUGHT] * size)
    goes = (list(states[spots[0]]), list(states[spots[0] + 1]))
    return (row, (len(spots), 1), ahead, behind, drift, goes)


def mixture_of(program, round_told):
    """A mixture over the rows of a round that bars all of them."""
    look_at(program)
    look_at_round(program, round_told)
    rows = round_told[0]
    return [part_for(round_told, row, len(program[0])) for row in range(len(program[2])) if row in rows]


def line_over(plain, many, parts):
    """The line over so many numbers with a plain number and, from some spots on, factors, which are added up."""
    line = [plain] + [0] * many
    for spot, factors in parts:
        for at, factor in enumerate(factors):
            line[1 + spot + at] += factor
    return line


def wishes_round(program, rows):
    """What a round of a ring wants, over the numbers of all its states but the last one, then of all such drifts."""
    size = len(program[0])
    first_drift = size * len(rows)
    many = 2 * first_drift
    told = []
    for at, row in enumerate(rows):
        is_last = at == len(rows) - 1
        here = size * at
        after = 0 if is_last else here + size
        for word, line in program[2][row][2]:
            ahead, behind = line[1:size + 1], line[size + 1:]
            # the last state is the first one and the first drift
            more = [(first_drift, behind)] if is_last else []
            told.append((word, line_over(line[0], many, [(here, ahead), (after, behind), *more])))
            told.append((word, line_over(0, many, [(first_drift + here, ahead), (first_drift + after, behind)])))
    return told


def round_by(program, rows):
    """A round of a ring; None where it has none."""
    size = len(program[0])
    many = len(rows)
    word, told = granted_over(2 * size * many, wishes_round(program, rows))
    if word != NUMBERS:
        return None
    lists = [told[at * size:(at + 1) * size] for at in range(2 * many)]
    states = [*lists[:many], along(lists[0], lists[many], 1)]
    return (list(rows), states, [*lists[many:], list(lists[many])])


def round_of(program, rows):
    """A round of anything that is a ring; None where it has none."""
    look_at(program)
    if not is_ring(program, rows):
        raise NoRing("this is no ring of the program's rows")
    return round_by(program, rows)


def longer_by_one(program, paths):
    """All ways by one row more, each from its least row number on, no two rows of which start at one place.

    Sorted ways make sorted ones.
    """
    everyone = program[2]
    told = []
    for path in paths:
        starts = [everyone[row][0] for row in path]
        here = everyone[path[-1]][1]
        for row in range(path[0] + 1, len(everyone)):
            if everyone[row][0] == here and here not in starts:
                told.append([*path, row])
    return told


def round_met(program, *, longest=LONGEST):
    """The round of the first ring that has one, the shorter ones first; None where none of at most so many rows has."""
    look_at(program)
    if not is_whole(longest) or longest < 1 or longest > LONGEST:
        raise NoNumber(longest)
    paths = [[row] for row in range(len(program[2]))]
    for length in range(longest):
        for path in paths:
            told = round_by(program, path) if is_closed(program, path) else None
            if told is not None:
                return told
        paths = longer_by_one(program, paths)
    return None
