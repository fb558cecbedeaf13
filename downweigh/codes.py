"""Codes: numbers put and read, wishes wanted, one of several codes, and rounds within rounds."""

from downweigh.errors import NoCode
from downweigh.forms import is_one_of
from downweigh.programs import is_wishes
from downweigh.wishes import is_line

PUT = "put"
READ = "read"
WANT = "want"
EITHER = "either"
ROUND = "round"
MOST_PARTS = 8
MOST_WANTED = 4
FEWEST_CODES = 2
MOST_CODES = 4
DEEPEST = 4


def is_wanted(many, thing):
    """Whether anything is a list of wishes over so many numbers, no more than a want or a round has."""
    return is_wishes(many, thing) and len(thing) <= MOST_WANTED


def is_codes(many, thing, deep):
    """Whether anything is a list of as many codes as an either has, at most so deep."""
    if not isinstance(thing, list) or len(thing) < FEWEST_CODES or len(thing) > MOST_CODES:
        return False
    return all([is_code(many, code, deep) for code in thing])


def is_part(many, thing, deep):
    """Whether anything is a part of a code, the codes in it at most so deep."""
    if not isinstance(thing, tuple) or len(thing) == 0 or not isinstance(thing[0], str):
        return False
    word = thing[0]
    if word == PUT:
        return len(thing) == 3 and is_one_of(many, thing[1]) and is_line(many, thing[2])
    if word == READ:
        return len(thing) == 2 and is_one_of(many, thing[1])
    if word == WANT:
        return len(thing) == 2 and is_wanted(many, thing[1])
    if word == EITHER:
        return len(thing) == 2 and is_codes(many, thing[1], deep)
    return word == ROUND and len(thing) == 3 and is_wanted(many, thing[1]) and is_code(many, thing[2], deep)


def is_code(many, thing, deep):
    """Whether anything is a code over so many numbers, at most so deep."""
    # a list may be within itself: no deeper things are looked at
    if deep < 1 or not isinstance(thing, list) or len(thing) > MOST_PARTS:
        return False
    return all([is_part(many, part, deep - 1) for part in thing])


def look_at_code(names, thing):
    """Refuses anything but a code over names of numbers."""
    if not is_code(len(names), thing, DEEPEST):
        raise NoCode("this is no code over these names")
