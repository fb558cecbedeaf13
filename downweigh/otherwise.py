"""Programs put otherwise: by another order of their places or numbers, in part, or side by side."""

from downweigh.errors import NoNumber, NoOrder, NoRow, TooMany, Unlike
from downweigh.forms import is_one_of, is_rising
from downweigh.numbers import is_whole
from downweigh.programs import MOST_PLACES, MOST_ROWS, copied_rows, copied_wishes, look_at


def look_at_order(many, thing):
    """Refuses anything but a list of the numbers of so many things, each once."""
    if not isinstance(thing, list) or not all([is_one_of(many, at) for at in thing]):
        raise NoOrder("this is no list of their numbers")
    if sorted(thing) != list(range(many)):
        raise NoOrder("not each of them stands there once")


def moved(things, order):
    """The things in a list in which number i stands at order[i]."""
    told = list(things)
    for at, thing in zip(order, things):
        told[at] = thing
    return told


def line_moved(line, order):
    """A line over the numbers ahead and behind, these moved on both sides."""
    many = len(order)
    return line[:1] + moved(line[1:many + 1], order) + moved(line[many + 1:], order)


def places_ordered(program, order):
    """The program with place i at order[i]."""
    look_at(program)
    names, places, rows = program
    look_at_order(len(places), order)
    told = [(order[start], order[to], copied_wishes(wishes)) for start, to, wishes in rows]
    return (list(names), moved(places, order), told)


def numbers_ordered(program, order):
    """The program with number i at order[i]."""
    look_at(program)
    names, places, rows = program
    look_at_order(len(names), order)
    told = [(start, to, [(word, line_moved(line, order)) for word, line in wishes]) for start, to, wishes in rows]
    return (moved(names, order), list(places), told)


def part_of(program, rows):
    """The program with the rows of some numbers alone."""
    look_at(program)
    names, places, everyone = program
    if not is_rising(len(everyone), rows):
        raise NoRow(None)
    return (list(names), list(places), copied_rows([everyone[number] for number in rows]))


def look_at_most(most, thing):
    """Refuses anything but a whole number from 1 to the most."""
    if not is_whole(thing) or thing < 1 or thing > most:
        raise NoNumber(thing)


def beside(one, other, *, places=MOST_PLACES, rows=MOST_ROWS):
    """Two programs side by side, with no more places and rows than so many."""
    look_at(one)
    look_at(other)
    look_at_most(MOST_PLACES, places)
    look_at_most(MOST_ROWS, rows)
    if len(one[0]) != len(other[0]) or any([name in one[1] for name in other[1]]):
        raise Unlike("these can't stand side by side")
    first = len(one[1])
    if first + len(other[1]) > places or len(one[2]) + len(other[2]) > rows:
        raise TooMany("there would be too many places or rows")
    shifted = [(start + first, to + first, wishes) for start, to, wishes in other[2]]
    return (list(one[0]), one[1] + other[1], copied_rows(one[2] + shifted))
