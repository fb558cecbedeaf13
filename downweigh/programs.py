"""Programs: names of numbers, names of places, and rows that lead from place to place."""

from downweigh.errors import NoPlace, NoProgram, NoRow
from downweigh.forms import is_one_of
from downweigh.wishes import is_wish

MOST_NAMES = 3
MOST_PLACES = 6
MOST_ROWS = 10
MOST_WISHES = 12
LONGEST_NAME = 6
LETTERS = "abcdefghijklmnopqrstuvwxyz"


def is_letters(thing, most):
    """Whether anything is a text of one to so many small letters."""
    if not isinstance(thing, str) or len(thing) < 1 or len(thing) > most:
        return False
    return all([sign in LETTERS for sign in thing])


def is_name(thing):
    """Whether anything is a name of a number or a place: one to six small letters."""
    return is_letters(thing, LONGEST_NAME)


def look_at_names(part, thing, most):
    """Refuses anything but a list of one to so many unlike names."""
    if not isinstance(thing, list) or len(thing) < 1 or len(thing) > most:
        raise NoProgram(part, None)
    for at, name in enumerate(thing):
        if not is_name(name) or name in thing[:at]:
            raise NoProgram(part, at)


def is_wishes(many, thing):
    """Whether anything is a list of wishes over so many numbers, no more than a row has."""
    if not isinstance(thing, list) or len(thing) > MOST_WISHES:
        return False
    return all([is_wish(many, wish) for wish in thing])


def is_row(names, places, thing):
    """Whether anything is a row of a program with so many names and places."""
    if not isinstance(thing, tuple) or len(thing) != 3:
        return False
    start, to, wishes = thing
    if not is_one_of(places, start) or not is_one_of(places, to):
        return False
    return is_wishes(2 * names, wishes)


def look_at_rows(names, places, thing):
    """Refuses anything but a list of rows, of a program with so many names and places."""
    if not isinstance(thing, list) or len(thing) > MOST_ROWS:
        raise NoProgram("rows", None)
    for at, row in enumerate(thing):
        if not is_row(names, places, row):
            raise NoProgram("rows", at)


def look_at(thing):
    """Refuses anything but a program."""
    if not isinstance(thing, tuple) or len(thing) != 3:
        raise NoProgram(None, None)
    names, places, rows = thing
    look_at_names("names", names, MOST_NAMES)
    look_at_names("places", places, MOST_PLACES)
    look_at_rows(len(names), len(places), rows)


def look_at_number(program, thing):
    """Refuses anything but the number of one of a program's rows."""
    if not is_one_of(len(program[2]), thing):
        raise NoRow(thing)


def look_at_place(program, thing):
    """Refuses anything but the number of one of a program's places."""
    if not is_one_of(len(program[1]), thing):
        raise NoPlace(thing)


def copied_wishes(wishes):
    """The same wishes as new lists, apart also where two of them are one thing."""
    return [(word, list(line)) for word, line in wishes]


def copied_rows(rows):
    """The same rows as new lists, apart also where two of them are one thing."""
    return [(start, to, copied_wishes(wishes)) for start, to, wishes in rows]


def copied(program):
    """The same program as new lists."""
    names, places, rows = program
    return (list(names), list(places), copied_rows(rows))
