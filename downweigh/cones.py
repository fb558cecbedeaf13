"""Cones: all numbers that grant wishes, told by the corners and ways that they are put together of.

A corner or way is a list of whole numbers, the plain one first: a corner has it above nought, and stands for
the others divided by it; a way has it nought, and leads on from wherever all is granted.
Wishes are taken one by one. What may be gone both ways so far is a line; a ray, only one way, is kept with the
`least` wishes at which it is just nought (a bit for each), by which it is seen which two rays are neighbours.
"""

from downweigh.balance import unit
from downweigh.tables import shared_by
from downweigh.wishes import JUST, LEAST


def worth_at(line, vector):
    """What a line is worth along a corner, way or line."""
    return sum([one * other for one, other in zip(line, vector)])


def together(one, many, other, times):
    """So many times the one and so many times the other, in numbers as short as can be."""
    told = [many * left + times * right for left, right in zip(one, other)]
    shared = shared_by(told)
    return [number // shared for number in told]


class Cone:
    """What grants all wishes that were taken so far."""

    def __init__(self, width):
        self.lines = [unit(width, at) for at in range(width)]
        self.rays = []
        self.bit = 1

    def take_wish(self, wish):
        """Takes one wish more."""
        word, line = wish
        worths = [worth_at(line, vector) for vector in self.lines]
        if any(worths):
            self.turn_line(word, line, worths)
        else:
            self.part_rays(word, line)
        if word == LEAST:
            self.bit = self.bit << 1

    def turn_line(self, word, line, worths):
        """Turns a line at which the wish is not nought into a ray, and moves all else along it to where it is."""
        at = [worth != 0 for worth in worths].index(True)
        sign = 1 if worths[at] > 0 else -1
        more = sign * worths[at]
        by = [sign * number for number in self.lines[at]]
        self.lines = [
            together(vector, more, by, -worth)
            for number, (vector, worth) in enumerate(zip(self.lines, worths)) if number != at
        ]
        bit = self.bit if word == LEAST else 0
        self.rays = [
            (zeros | bit, together(vector, more, by, -worth_at(line, vector))) for zeros, vector in self.rays
        ]
        if word == LEAST:
            # at all wishes ahead of this one a line is nought
            self.rays.append((bit - 1, by))

    def part_rays(self, word, line):
        """Leaves the rays that grant the wish, and those between two neighbours of which one does not."""
        told = [(worth_at(line, vector), zeros, vector) for zeros, vector in self.rays]
        above = [one for one in told if one[0] > 0]
        below = [one for one in told if one[0] < 0]
        bit = self.bit if word == LEAST else 0
        rays = [(zeros | bit, vector) for worth, zeros, vector in told if worth == 0]
        rays.extend(self.between(above, below, bit))
        if word == LEAST:
            rays.extend([(zeros, vector) for worth, zeros, vector in above])
        self.rays = rays

    def between(self, above, below, bit):
        """The rays between neighbours above and below nought."""
        everyone = [zeros for zeros, vector in self.rays]
        told = []
        for high, some, one in above:
            for low, others, other in below:
                both = some & others
                # neighbours are two rays such that no third one is nought wherever both are
                if len([zeros for zeros in everyone if zeros & both == both]) == 2:
                    told.append((both | bit, together(one, -low, other, high)))
        return told


def corners_and_ways(many, wishes):
    """The corners and the ways that all numbers are put together of that grant wishes over so many numbers."""
    cone = Cone(many + 1)
    # lines go early by `just` wishes, and few rays are made
    for wish in [wish for wish in wishes if wish[0] == JUST]:
        cone.take_wish(wish)
    cone.take_wish((LEAST, unit(many + 1, 0)))
    for wish in [wish for wish in wishes if wish[0] == LEAST]:
        cone.take_wish(wish)
    corners = [vector for zeros, vector in cone.rays if vector[0] > 0]
    ways = [vector for zeros, vector in cone.rays if vector[0] == 0]
    back = [[-number for number in vector] for vector in cone.lines]
    return (corners, ways + [list(vector) for vector in cone.lines] + back)
