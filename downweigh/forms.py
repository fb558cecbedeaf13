"""Forms that anything is asked for: pairs that begin with a word, numbers of things, rising lists of these; copies."""

from downweigh.numbers import is_whole


def word_of(thing):
    """The text that anything begins with that is a tuple of two; None of all else."""
    if not isinstance(thing, tuple) or len(thing) != 2 or not isinstance(thing[0], str):
        return None
    return thing[0]


def is_one_of(many, thing):
    """Whether anything is the number, from 0, of one of so many things."""
    return is_whole(thing) and 0 <= thing < many


def is_rising(many, thing):
    """Whether anything is a list of numbers of some of so many things, unlike and rising."""
    if not isinstance(thing, list) or not all([is_one_of(many, at) for at in thing]):
        return False
    return all([one < other for one, other in zip(thing, thing[1:])])


def apart(thing):
    """The same with new lists, each apart from all others."""
    if isinstance(thing, list):
        return [apart(part) for part in thing]
    if isinstance(thing, tuple):
        return tuple([apart(part) for part in thing])
    return thing
