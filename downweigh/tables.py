"""Which columns come together to a goal: steps of the dual simplex way on a table of whole numbers.

Each row of the table may be multiplied by any number above nought, so no quotients are needed.
The columns get made-up costs, so that each step makes what is reached so far dearer and none comes
back; steps that cost nothing are taken by least numbers, so that these don't go round either.
A row in which no column is chosen yet stands for a remainder that must be nought: its sign is free.

Numbers of up to so many bits are kept as they are, longer ones are rounded; all are kept where bits
is None. So what is found is sure where bits is None, else a guess that must be looked at.
"""

from downweigh.numbers import common

# numbers of up to so many bits are not worth the trouble of making them shorter
SHORT = 150
# columns are made longer by whole pieces only, so that those of small numbers stay as they are
PIECE = 32
# by how many bits a lack is told finer than its row's size
FINE = 64
# rounding adds up: of a rounded number this part of its bits is not trusted
UNSURE = 3
# costs are spread from SPREAD on to twice as much, by a multiplier that goes through all remainders of a prime
SPREAD = 1 << 20
MULTIPLIER = 16807
PRIME = (1 << 31) - 1


def bits_of(numbers):
    """How many bits the greatest of some numbers has, whatever its sign."""
    return max(max(numbers), -min(numbers)).bit_length() if numbers else 0


def shared_by(numbers):
    """The greatest whole number that divides all of some numbers that aren't all nought."""
    shared = common(max(numbers), min(numbers))
    while shared > 1:
        rest = max([number % shared for number in numbers])
        if rest == 0:
            return shared
        shared = common(shared, rest)
    return 1


class Line:
    """A row of a table: its numbers, that of the goal last, how long the others are, and whether they are rounded."""

    def __init__(self, parts, rough):
        self.parts = parts
        self.size = bits_of(parts[:-1])
        self.rough = rough

    def turn(self):
        """Turns all signs about."""
        self.parts = [-number for number in self.parts]


def kept(numbers, bits):
    """The line of exact numbers, without what divides all if they are long, and rounded if they are too long."""
    line = Line(numbers, False)
    if line.size <= SHORT:
        return line
    shared = shared_by(numbers)
    if shared > 1:
        line = Line([number // shared for number in numbers], False)
    if bits is None or line.size <= bits:
        return line
    return rounded(line.parts, line.size, bits)


def rounded(numbers, most, bits):
    """The line of numbers cut to so many bits; what is far smaller than the most they came of is an error alone."""
    low = 1 << max(0, most - bits + bits // UNSURE)
    cut = max(0, bits_of(numbers[:-1]) - bits)
    return Line([number >> cut if number >= low or number <= -low else 0 for number in numbers], True)


def cleared(line, by, at, bits):
    """A line less so much of another one, above nought at a place, that it is nought there."""
    more = by.parts[at]
    less = line.parts[at]
    if line.rough or by.rough:
        most = max(line.size + more.bit_length(), by.size + less.bit_length())
        return rounded([one * more - other * less for one, other in zip(line.parts, by.parts)], most, bits)
    shared = common(more, less)
    more = more // shared
    less = less // shared
    return kept([one * more - other * less for one, other in zip(line.parts, by.parts)], bits)


def alike_sized(column, most):
    """A column made longer by some bits, where it is much shorter than the longest."""
    more = (most - bits_of(column)) // PIECE * PIECE
    return [number << more for number in column] if more else column


def first_costs(columns):
    """A made-up cost above nought for each column, by its size and spread so that few are alike."""
    costs = []
    spread = 1
    for column in columns:
        spread = spread * MULTIPLIER % PRIME
        costs.append((1 + sum([abs(number) for number in column])) * (SPREAD + spread % SPREAD))
    return costs


class Table:
    """A table with the goal as its last column, the costs, and which column is chosen in each row."""

    def __init__(self, columns, goal, bits):
        everything = [*columns, goal]
        if bits is not None:
            most = max([bits_of(column) for column in everything])
            everything = [alike_sized(column, most) for column in everything]
        self.bits = bits
        self.width = len(columns)
        self.lines = [Line([column[at] for column in everything], False) for at in range(len(goal))]
        self.costs = Line([*first_costs(everything[:-1]), 0], False)
        self.chosen = [None for place in goal]
        self.careful = False

    def lack(self, at):
        """How far a row's number is from what it may be, measured by the row's own size; 0 where it may be so."""
        line = self.lines[at]
        right = -abs(line.parts[-1]) if self.chosen[at] is None else line.parts[-1]
        return ((-right << FINE) >> line.size) + 1 if right < 0 else 0

    def leaving(self):
        """The row to step at: the one that lacks most; None where none does."""
        lacks = [self.lack(at) for at in range(len(self.lines))]
        if not any(lacks):
            return None
        if self.careful:
            return self.first_lacking(lacks)
        return lacks.index(max(lacks))

    def first_lacking(self, lacks):
        """The lacking row whose column stands first, those without one ahead: so no steps go round."""
        best = None
        for at, lacking in enumerate(lacks):
            if lacking == 0:
                continue
            if self.chosen[at] is None:
                return at
            if best is None or self.chosen[at] < self.chosen[best]:
                best = at
        return best

    def entering(self, parts):
        """The column to be chosen in a row that lacks: the cheapest, then the first; None where none helps."""
        costs = self.costs.parts
        best = None
        for at in range(self.width):
            if parts[at] < 0 and (best is None or costs[at] * parts[best] > costs[best] * parts[at]):
                best = at
        return best

    def step(self, at):
        """One step at a row that lacks; whether there was a column for it."""
        line = self.lines[at]
        if line.parts[-1] > 0:
            line.turn()
        column = self.entering(line.parts)
        if column is None:
            return False
        line.turn()
        # a step that costs nothing may be one of a ring of such steps
        self.careful = self.costs.parts[column] <= 0
        self.lines = [
            other if number == at or other.parts[column] == 0 else cleared(other, line, column, self.bits)
            for number, other in enumerate(self.lines)
        ]
        if self.costs.parts[column] != 0:
            self.costs = cleared(self.costs, line, column, self.bits)
        self.chosen[at] = column
        return True


def searched(columns, goal, bits, most):
    """The columns chosen in each row at the end of at most so many steps; None where it isn't the end.

    With them the row that bars the goal, None where they come together to it.
    """
    table = Table(columns, goal, bits)
    steps = 0
    while most is None or steps < most:
        at = table.leaving()
        if at is None or not table.step(at):
            return (table.chosen, at)
        steps += 1
    return None
