"""Lines and wishes over so many numbers, and which numbers grant them."""

from downweigh.errors import NoNumber
from downweigh.numbers import NOUGHT, ONE, is_fraction, is_whole, plus, times

MOST_NUMBERS = 8
LEAST = "least"
JUST = "just"


def look_at_many(many):
    """Refuses anything that is not a number of numbers, from 0 to 8."""
    if not is_whole(many) or many < 0 or many > MOST_NUMBERS:
        raise NoNumber(many)


def is_line(many, thing):
    """Whether anything is a line over so many numbers."""
    look_at_many(many)
    if not isinstance(thing, list) or len(thing) != many + 1:
        return False
    return all([is_whole(part) for part in thing])


def is_wish(many, thing):
    """Whether anything is a wish over so many numbers."""
    look_at_many(many)
    if not isinstance(thing, tuple) or len(thing) != 2:
        return False
    word, line = thing
    if not isinstance(word, str) or word not in (LEAST, JUST):
        return False
    return is_line(many, line)


def is_numbers(many, thing):
    """Whether anything is a list of just so many fractions."""
    if not isinstance(thing, list) or len(thing) != many:
        return False
    return all([is_fraction(part) for part in thing])


def worth(line, numbers):
    """A line's worth at numbers."""
    total = (line[0], 1)
    for factor, number in zip(line[1:], numbers):
        total = plus(total, times((factor, 1), number))
    return total


def comes_to(wishes, many, numbers):
    """Whether each wish's line, its plain number taken so many times, comes to what the wish wants."""
    for word, line in wishes:
        told = plus(times((line[0], 1), many), worth([0, *line[1:]], numbers))
        if told[0] < 0 or (word == JUST and told != NOUGHT):
            return False
    return True


def grants(wishes, numbers):
    """Whether numbers grant all wishes."""
    return comes_to(wishes, ONE, numbers)
