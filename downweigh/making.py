"""Programs made of codes: a run leads from the begin to the end just as the code is gone."""

from downweigh.codes import EITHER, PUT, READ, ROUND, look_at_code
from downweigh.errors import TooMany
from downweigh.programs import LETTERS, MOST_PLACES, MOST_ROWS
from downweigh.sides import wishes_ahead
from downweigh.wishes import JUST

BEGIN = 0
END = 1


def becomes(size, number, line):
    """The wish that a number behind is just a line's worth ahead."""
    return (JUST, [-part for part in line] + [1 if at == number else 0 for at in range(size)])


def stays(size, number):
    """The wish that a number stays."""
    return becomes(size, number, [0] + [1 if at == number else 0 for at in range(size)])


def all_stay(size):
    """The wishes that all numbers stay."""
    return [stays(size, number) for number in range(size)]


def own_wishes(size, part):
    """The wishes of the row of a put, a read or a want."""
    if part[0] == PUT:
        return [becomes(size, at, part[2]) if at == part[1] else stays(size, at) for at in range(size)]
    if part[0] == READ:
        return [stays(size, at) for at in range(size) if at != part[1]]
    return all_stay(size) + wishes_ahead(part[1])


class Draft:
    """A program that is being made: its rows so far, and how many places there are."""

    def __init__(self, size):
        self.size = size
        self.ways = []
        self.spread = END + 1

    def new_place(self):
        """The number of one place more."""
        if self.spread == MOST_PLACES:
            raise TooMany("there would be too many places")
        self.spread += 1
        return self.spread - 1

    def add_row(self, start, to, wishes, own):
        """Puts a row with its own wishes behind others, these told of the numbers ahead."""
        if len(self.ways) == MOST_ROWS:
            raise TooMany("there would be too many rows")
        self.ways.append((start, to, wishes_ahead(wishes) + own))

    def add_code(self, start, to, wishes, code):
        """Makes a code from a place to a place, behind wishes."""
        if code == []:
            self.add_row(start, to, wishes, all_stay(self.size))
        here = start
        first = wishes
        for at, part in enumerate(code):
            after = to if at == len(code) - 1 else self.new_place()
            self.add_part(here, after, first, part)
            here = after
            first = []

    def add_part(self, start, to, wishes, part):
        """Makes a part of a code from a place to a place, behind wishes."""
        if part[0] == EITHER:
            for code in part[1]:
                self.add_code(start, to, wishes, code)
        elif part[0] == ROUND:
            ring = self.new_place()
            self.add_row(start, ring, wishes, all_stay(self.size))
            self.add_code(ring, ring, part[1], part[2])
            self.add_row(ring, to, [], all_stay(self.size))
        else:
            self.add_row(start, to, wishes, own_wishes(self.size, part))


def made(names, code):
    """The program of a code."""
    look_at_code(names, code)
    draft = Draft(len(names))
    draft.add_code(BEGIN, END, [], code)
    return (list(names), list(LETTERS[:draft.spread]), draft.ways)
