"""Starts of a program, wishes that are offered at its places, and parts of what is offered."""

from downweigh.errors import NoOffer, NoStart
from downweigh.forms import is_one_of, is_rising
from downweigh.programs import is_wishes
from downweigh.wishes import LEAST, is_wish

MOST_OFFERED = 6


def look_at_start(program, thing):
    """Refuses anything but a start of a program."""
    if not isinstance(thing, tuple) or len(thing) != 2:
        raise NoStart("this is no tuple of a place and wishes")
    place, wishes = thing
    if not is_one_of(len(program[1]), place) or not is_wishes(len(program[0]), wishes):
        raise NoStart("these are no place and wishes of the program")


def look_at_lists(program, thing):
    """Refuses anything but a list with, for each place, a list of wishes over the numbers."""
    names, places, rows = program
    if not isinstance(thing, list) or len(thing) != len(places):
        raise NoOffer("this is no list with one for each place")
    for wishes in thing:
        if not isinstance(wishes, list) or not all([is_wish(len(names), wish) for wish in wishes]):
            raise NoOffer("this is no list of wishes")


def look_at_offered(program, thing):
    """Refuses anything but what may be offered at a program's places."""
    look_at_lists(program, thing)
    for wishes in thing:
        if len(wishes) > MOST_OFFERED or not all([word == LEAST for word, line in wishes]):
            raise NoOffer("too many are offered at a place, or others than `least` wishes")


def is_part(offered, thing):
    """Whether anything is a part of what is offered."""
    if not isinstance(thing, list) or len(thing) != len(offered):
        return False
    return all([is_rising(len(wishes), numbers) for wishes, numbers in zip(offered, thing)])


def wishes_at(offered, part, place):
    """The part's wishes at a place."""
    return [offered[place][number] for number in part[place]]
