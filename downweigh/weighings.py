"""Weighings: a line for each place, and how what a state weighs rises and falls by the rows."""

from downweigh.programs import look_at, look_at_number
from downweigh.sides import line_ahead, line_behind
from downweigh.wishes import is_line, worth


def is_weighing(program, thing):
    """Whether anything is a weighing of a program."""
    names, places, rows = program
    if not isinstance(thing, list) or len(thing) != len(places):
        return False
    return all([is_line(len(names), line) for line in thing])


def weighs(weighing, place, numbers):
    """What a state weighs."""
    return worth(weighing[place], numbers)


def rise_by(row, weighing):
    """The line by which what is weighed rises by a row."""
    start, to, wishes = row
    ahead = line_ahead(weighing[start])
    return [more - less for more, less in zip(line_behind(weighing[to]), ahead)]


def fall_by(row, weighing):
    """The line by which what is weighed falls by a row."""
    return [-number for number in rise_by(row, weighing)]


def rise(program, weighing, row):
    """A row's rise, by the row's number."""
    look_at(program)
    look_at_number(program, row)
    return rise_by(program[2][row], weighing)


def fall(program, weighing, row):
    """A row's fall, by the row's number."""
    look_at(program)
    look_at_number(program, row)
    return fall_by(program[2][row], weighing)
