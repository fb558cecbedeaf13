"""Kept wishes: papers for a part of what is offered, and wishes put into a program's rows."""

from downweigh.balance import SHARES
from downweigh.errors import TooMany
from downweigh.follows import NONE, minus_one
from downweigh.forms import word_of
from downweigh.offers import is_part, look_at_lists, look_at_offered, look_at_start, wishes_at
from downweigh.programs import MOST_WISHES, copied_wishes, look_at
from downweigh.shares import carries
from downweigh.sides import line_behind, wishes_ahead


def asked_at_start(start, offered, part):
    """The start's wishes, and the lines that must follow from them for a part to be kept."""
    place, wishes = start
    return (wishes, [line for word, line in wishes_at(offered, part, place)])


def asked_at_row(row, offered, part):
    """A row's wishes with the part's ones ahead, and the lines behind that must follow for the part to be kept."""
    start, to, wishes = row
    ahead = wishes_ahead(wishes_at(offered, part, start))
    return (wishes + ahead, [line_behind(line) for word, line in wishes_at(offered, part, to)])


def lets_paper(many, asked, thing):
    """Whether anything is a paper by which each line that is asked follows, over so many numbers."""
    wishes, lines = asked
    word = word_of(thing)
    if word == NONE:
        return carries(wishes, minus_one(many), thing[1])
    if word != SHARES or not isinstance(thing[1], list) or len(thing[1]) != len(lines):
        return False
    return all([carries(wishes, line, shares) for line, shares in zip(lines, thing[1])])


def lets_kept(program, start, offered, part, thing):
    """Whether anything is papers for a part of what is offered."""
    look_at(program)
    look_at_start(program, start)
    look_at_offered(program, offered)
    names, places, rows = program
    if not is_part(offered, part) or not isinstance(thing, tuple) or len(thing) != 2:
        return False
    begin, steps = thing
    if not isinstance(steps, list) or len(steps) != len(rows):
        return False
    if not lets_paper(len(names), asked_at_start(start, offered, part), begin):
        return False
    asked = [asked_at_row(row, offered, part) for row in rows]
    return all([lets_paper(2 * len(names), one, step) for one, step in zip(asked, steps)])


def put_in(program, *, wishes):
    """The program whose rows have, behind their own wishes, those of their start-place."""
    look_at(program)
    look_at_lists(program, wishes)
    names, places, rows = program
    if any([len(own) + len(wishes[start]) > MOST_WISHES for start, to, own in rows]):
        raise TooMany("a row would have too many wishes")
    told = [(start, to, copied_wishes(own) + wishes_ahead(wishes[start])) for start, to, own in rows]
    return (list(names), list(places), told)
