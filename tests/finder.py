"""Ranks and mixtures of small programs, found by balance: what the tests hand to the checkers.

Each unknown is one column, or two where it may be below nought; each equation is one place of the goal.
"""

from downweigh.balance import balance
from downweigh.follows import granted
from downweigh.numbers import plus, times


class Equations:
    """Equations between unknowns, put together bit by bit."""

    def __init__(self):
        self.places = 0
        self.goal = {}
        self.parts = {}
        self.free = {}

    def unknown(self, name, free):
        self.free[name] = free
        self.parts.setdefault(name, {})

    def add(self, parts, goal):
        """One equation: the sum of factors times unknowns is the goal."""
        for name, factor in parts:
            row = self.parts[name]
            row[self.places] = row.get(self.places, 0) + factor
        self.goal[self.places] = goal
        self.places += 1

    def solved(self):
        """A fraction for each unknown; None where there are none."""
        columns, names = [], []
        for name, row in self.parts.items():
            column = [row.get(place, 0) for place in range(self.places)]
            columns.append(column)
            names.append((name, 1))
            if self.free[name]:
                columns.append([-number for number in column])
                names.append((name, -1))
        word, told = balance(columns, [self.goal[place] for place in range(self.places)])
        if word != "shares":
            return None
        worths = {name: (0, 1) for name in self.parts}
        for (name, sign), share in zip(names, told):
            worths[name] = plus(worths[name], times((sign, 1), share))
        return worths


def never_of(program):
    """All rows that never go, with shares for it."""
    told = [(row, granted(2 * len(program[0]), wishes)) for row, (start, to, wishes) in enumerate(program[2])]
    return [(row, paper) for row, (word, paper) in told if word == "shares"]


def weight(size, sign, place, side):
    """A place's line as parts of an equation for each spot of a line ahead (side 0) and behind (side 1)."""
    told = [[] for spot in range(2 * size + 1)]
    told[0].append((("w", place, 0), sign))
    for at in range(size):
        told[1 + side * size + at].append((("w", place, at + 1), sign))
    return told


def carry(equations, row, wishes, tag, lines, least):
    """Shares for a row's wishes that carry lines, told as parts, less so much."""
    equations.unknown((tag, row, "slack"), False)
    for number, (word, line) in enumerate(wishes):
        equations.unknown((tag, row, number), word == "just")
    for spot, parts in enumerate(lines):
        own = [((tag, row, number), line[spot]) for number, (word, line) in enumerate(wishes)]
        own += [(name, -factor) for name, factor in parts]
        if spot == 0:
            own.append(((tag, row, "slack"), 1))
        equations.add(own, -least if spot == 0 else 0)


def rank_of(program, left, falling):
    """A rank for rows left in which some fall; None where there is none."""
    names, places, rows = program
    size = len(names)
    equations = Equations()
    for place in range(len(places)):
        for at in range(size + 1):
            equations.unknown(("w", place, at), True)
    for row in left:
        start, to, wishes = rows[row]
        ahead, behind = weight(size, 1, start, 0), weight(size, -1, to, 1)
        carry(equations, row, wishes, "fall", [one + other for one, other in zip(ahead, behind)], int(row in falling))
        carry(equations, row, wishes, "bound", ahead, 0)
    worths = equations.solved()
    return None if worths is None else rank_by(program, left, falling, worths)


def rank_by(program, left, falling, worths):
    """The rank of a solution, made so many times as great that its weighing is whole."""
    size = len(program[0])
    by = 1
    for name, worth in worths.items():
        if name[0] == "w":
            by *= worth[1]
    weighing = [[worths["w", place, at][0] * by // worths["w", place, at][1] for at in range(size + 1)]
                for place in range(len(program[1]))]
    entries = []
    for row in left:
        many = len(program[2][row][2])
        shares = [[times((by, 1), worths[tag, row, number]) for number in range(many)] for tag in ("fall", "bound")]
        entries.append((row, row in falling, *shares))
    return (weighing, entries)


def mixture_of(program, rows, barred):
    """A mixture over rows that bars one of them; None where there is none."""
    names, places, everyone = program
    size = len(names)
    equations = Equations()
    for row in rows:
        equations.unknown(("many", row), False)
        for tag in ("plain", "drift"):
            for at in range(2 * size):
                equations.unknown((tag, row, at), True)
            for number, (word, line) in enumerate(everyone[row][2]):
                own = [((tag, row, at), line[1 + at]) for at in range(2 * size)]
                if tag == "plain":
                    own.append((("many", row), line[0]))
                if word == "least":
                    equations.unknown((tag, row, "slack", number), False)
                    own.append(((tag, row, "slack", number), -1))
                equations.add(own, 0)
    for place in range(len(places)):
        out = [row for row in rows if everyone[row][0] == place]
        into = [row for row in rows if everyone[row][1] == place]
        equations.add([(("many", row), 1) for row in out] + [(("many", row), -1) for row in into], 0)
        for at in range(size):
            parts = [((tag, row, at), 1) for row in out for tag in ("plain", "drift")]
            equations.add(parts + [(("plain", row, size + at), -1) for row in into], 0)
    equations.add([(("many", barred), 1)], 1)
    worths = equations.solved()
    return None if worths is None else mixture_by(program, rows, worths)


def mixture_by(program, rows, worths):
    """The mixture of a solution."""
    size = len(program[0])
    told = []
    for row in rows:
        plain, drift = ([worths[tag, row, at] for at in range(2 * size)] for tag in ("plain", "drift"))
        word, goes = granted(2 * size, program[2][row][2])
        told.append((row, worths["many", row], plain[:size], plain[size:], (drift[:size], drift[size:]),
                     (goes[:size], goes[size:])))
    return told


def added_lists(one, other):
    return [plus(left, right) for left, right in zip(one, other)]


def put_together(one, other):
    """Two mixtures over the same rows, put together."""
    told = []
    for (row, many, ahead, behind, drift, goes), second in zip(one, other):
        both = (added_lists(drift[0], second[4][0]), added_lists(drift[1], second[4][1]))
        told.append((row, plus(many, second[1]), added_lists(ahead, second[2]), added_lists(behind, second[3]), both, goes))
    return told


def so_many_times(mixture, times_so):
    """So many times as much of every part; goes stays."""
    told = []
    for row, many, ahead, behind, drift, goes in mixture:
        lists = [[times(times_so, number) for number in part] for part in (ahead, behind, *drift)]
        told.append((row, times(times_so, many), lists[0], lists[1], (lists[2], lists[3]), goes))
    return told
