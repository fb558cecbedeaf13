"""A bench on which a program grows and shrinks, and which keeps the papers that still hold of it."""

from downweigh.errors import Bare, Full, NoRow, NoWishes
from downweigh.forms import apart
from downweigh.programs import MOST_ROWS, copied, copied_rows, copied_wishes, is_row, is_wishes, look_at, look_at_number
from downweigh.settling import ENDS, LEFT, settled


def paper_of(program):
    """A new paper of a program: a tuple (word, paper)."""
    word, never, ranks, mixtures = settled(program)
    if word == ENDS:
        return (ENDS, (never, ranks))
    mixture = mixtures[-1]
    return (LEFT, ([part[0] for part in mixture], mixture))


def moved_up(number, row):
    """A row's number behind another row was taken out."""
    return number - 1 if number > row else number


def without(parts, row):
    """Tuples that begin with a row's number, without those of a row that was taken out."""
    return [(moved_up(number, row), *rest) for number, *rest in parts if number != row]


def behind_take(kept, row):
    """What is kept of a kept paper behind a row taken out."""
    word, paper = kept
    if word == ENDS:
        never, ranks = paper
        return (ENDS, (without(never, row), [(weighing, without(entries, row)) for weighing, entries in ranks]))
    rows, mixture = paper
    if row in rows:
        return None
    return (LEFT, ([moved_up(number, row) for number in rows], without(mixture, row)))


def is_left_apart(kept, row):
    """Whether a kept paper is one of rows left that a row is not among."""
    word, paper = kept
    return word == LEFT and row not in paper[0]


class Bench:
    """A program, those ahead of each deed that can be undone, and a paper of it or None.

    Programs and papers that it keeps are never changed, so a twin may keep the same ones.
    """

    def __init__(self, program):
        look_at(program)
        self.plan = copied(program)
        self.past = []
        self.paper = None

    def set_rows(self, rows, paper):
        """Does a deed: the program has these rows, and this paper is kept."""
        names, places, before = self.plan
        self.past.append(self.plan)
        self.plan = (names, places, rows)
        self.paper = paper

    def put(self, row):
        """Puts a row behind the others; tells its number."""
        names, places, rows = self.plan
        if not is_row(len(names), len(places), row):
            raise NoRow(None)
        if len(rows) == MOST_ROWS:
            raise Full("no row more can be put")
        stays = self.paper is not None and self.paper[0] == LEFT
        self.set_rows(rows + copied_rows([row]), self.paper if stays else None)
        return len(rows)

    def take(self, number):
        """Takes a row out; tells it."""
        look_at_number(self.plan, number)
        names, places, rows = self.plan
        paper = None if self.paper is None else behind_take(self.paper, number)
        self.set_rows(rows[:number] + rows[number + 1:], paper)
        return copied_rows([rows[number]])[0]

    def change(self, number, wishes):
        """Puts wishes in the stead of a row's own."""
        look_at_number(self.plan, number)
        names, places, rows = self.plan
        if not is_wishes(2 * len(names), wishes):
            raise NoWishes("these are no wishes of a row")
        start, to, before = rows[number]
        stays = self.paper is not None and is_left_apart(self.paper, number)
        changed = (start, to, copied_wishes(wishes))
        self.set_rows([*rows[:number], changed, *rows[number + 1:]], self.paper if stays else None)

    def undo(self):
        """Undoes the last deed."""
        if self.past == []:
            raise Bare("no deed is left to be undone")
        self.plan = self.past.pop()
        self.paper = None

    def ask(self):
        """Tells a paper, and whether it was kept: a tuple (word, paper, kept)."""
        kept = self.paper is not None
        if not kept:
            self.paper = paper_of(self.plan)
        word, paper = self.paper
        return (word, apart(paper), kept)

    def ask_with(self, rows):
        """Tells what would be told with some rows put behind, and stays as it is."""
        if not isinstance(rows, list):
            raise NoRow(None)
        other = self.twin()
        for row in rows:
            other.put(row)
        word, paper, kept = other.ask()
        return (word, paper)

    def program(self):
        """The program now."""
        return copied(self.plan)

    def deeds(self):
        """How many deeds there are to undo."""
        return len(self.past)

    def keeps(self):
        """Whether a paper is kept."""
        return self.paper is not None

    def twin(self):
        """Another bench with the same, that goes on by itself."""
        bench = Bench(self.plan)
        bench.past = list(self.past)
        bench.paper = self.paper
        return bench

    def __eq__(self, other):
        return isinstance(other, Bench) and self.plan == other.plan

    def __len__(self):
        return len(self.plan[2])

    def __repr__(self):
        return f"Bench({len(self.plan[2])})"
