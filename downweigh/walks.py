"""Walks: a program gone step by step, and back."""

from downweigh.errors import Bare, NoNumbers, NoStep
from downweigh.follows import NUMBERS, granted
from downweigh.numbers import shown
from downweigh.programs import copied, look_at, look_at_number, look_at_place
from downweigh.wishes import grants, is_numbers, worth


def look_at_numbers(program, thing):
    """Refuses anything but a list of a fraction for each of a program's numbers."""
    if not is_numbers(len(program[0]), thing):
        raise NoNumbers("this is no list of a fraction for each number")


def look_at_steps(thing):
    """Refuses anything but a list of tuples of two."""
    if not isinstance(thing, list) or not all([isinstance(step, tuple) and len(step) == 2 for step in thing]):
        raise NoNumbers("this is no list of tuples of a row and numbers")


def wish_behind(wish, numbers):
    """A row's wish, where the numbers ahead are known, as a wish of those behind alone."""
    word, line = wish
    first = len(numbers) + 1
    # the line is taken so many times that its plain number is whole
    top, bottom = worth(line[:first], numbers)
    return (word, [top] + [bottom * factor for factor in line[first:]])


def led_to(row, state):
    """Numbers behind to which a row leads from a state; None where there are none."""
    start, to, wishes = row
    place, numbers = state
    if start != place:
        return None
    word, told = granted(len(numbers), [wish_behind(wish, numbers) for wish in wishes])
    return told if word == NUMBERS else None


def is_step(row, state, behind):
    """Whether a row leads from a state to numbers behind."""
    start, to, wishes = row
    place, numbers = state
    return start == place and grants(wishes, numbers + behind)


def copied_state(state):
    """The same state with a new list."""
    place, numbers = state
    return (place, list(numbers))


def shown_state(program, state):
    """A state's text."""
    place, numbers = state
    return f"{program[1][place]}: " + ", ".join([shown(number) for number in numbers])


class Walk:
    """A walk of a program: all its states so far, and the rows by which it went from each to the next."""

    def __init__(self, program, place, numbers):
        look_at(program)
        look_at_place(program, place)
        look_at_numbers(program, numbers)
        self.plan = copied(program)
        self.trail = [(place, list(numbers))]
        self.path = []

    def go_on(self, row, behind):
        """One step by a row to numbers behind, where these are None to such as are told."""
        look_at_number(self.plan, row)
        if behind is not None:
            look_at_numbers(self.plan, behind)
        way = self.plan[2][row]
        reached = led_to(way, self.trail[-1]) if behind is None else list(behind)
        if reached is None or not is_step(way, self.trail[-1], reached):
            raise NoStep(row)
        self.trail.append((way[1], reached))
        self.path.append(row)
        return list(reached)

    def step(self, row, *, behind=None):
        """Goes one step; tells the numbers behind it."""
        return self.go_on(row, behind)

    def go(self, steps, *, keep=False):
        """Goes several steps, all or none, or those ahead of a refused one; tells the numbers behind each."""
        look_at_steps(steps)
        walk = self if keep else self.twin()
        told = []
        for row, behind in steps:
            told.append(walk.go_on(row, behind))
        self.trail = walk.trail
        self.path = walk.path
        return told

    def undo(self):
        """Goes the last step back."""
        if self.path == []:
            raise Bare("no step is left to be undone")
        self.trail.pop()
        self.path.pop()

    def here(self):
        """The number of the place now."""
        return self.trail[-1][0]

    def numbers(self):
        """The numbers now."""
        return list(self.trail[-1][1])

    def rows(self):
        """The rows of all steps that stand."""
        return list(self.path)

    def states(self):
        """All states from the first one to the one now."""
        return [copied_state(state) for state in self.trail]

    def leads(self, row):
        """Numbers behind to which a row leads now; None where there are none."""
        look_at_number(self.plan, row)
        return led_to(self.plan[2][row], self.trail[-1])

    def leading(self):
        """The rows that lead anywhere now."""
        return [row for row in range(len(self.plan[2])) if self.leads(row) is not None]

    def twin(self):
        """Another walk with the same, that goes on by itself."""
        walk = Walk(self.plan, self.here(), self.numbers())
        walk.trail = self.states()
        walk.path = self.rows()
        return walk

    def __eq__(self, other):
        return isinstance(other, Walk) and self.plan == other.plan and self.trail[-1] == other.trail[-1]

    def __len__(self):
        return len(self.path)

    def __repr__(self):
        return f"Walk({shown_state(self.plan, self.trail[-1])})"

    def __str__(self):
        return f"{shown_state(self.plan, self.trail[-1])}"
