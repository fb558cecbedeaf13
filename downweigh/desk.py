"""A desk that keeps programs by names, and answers rows of words."""

from downweigh.bounds import most_steps
from downweigh.codetexts import AND, read_code
from downweigh.deskrows import fractions_in, names_in, on_one_row, rows_in, words_of
from downweigh.errors import NoDeed, NoName, NoPlace
from downweigh.figures import in_figures
from downweigh.making import made
from downweigh.progtexts import read_program, shown_program
from downweigh.rounds import round_met
from downweigh.settling import ENDS, LEFT, sets_of, settled
from downweigh.walks import look_at_numbers

OK = "ok"
NOTHING = "-"
# what stands between wishes, as a row of the desk writes it
AND_ON_ROW = " & "


def told_rows(rows, between):
    """Row numbers with a sign between them, or that there are none."""
    return between.join([in_figures(row) for row in rows]) if rows != [] else NOTHING


def told_text(program):
    """The program's text."""
    return on_one_row(shown_program(program))


def told_settled(program):
    """Whether the program ends, and by how many ranks, or which rows are left."""
    never, ranks, left = sets_of(program)
    if left == []:
        return f"{ENDS} {len(ranks)}"
    return f"{LEFT} {told_rows(left, ' ')}"


def told_ranks(program):
    """The rows of each rank."""
    never, ranks, left = sets_of(program)
    return " ".join([told_rows(rows, ",") for rows in ranks]) if ranks != [] else NOTHING


def told_never(program):
    """The rows that never go."""
    never, ranks, left = sets_of(program)
    return told_rows(never, " ")


def told_round(program):
    """The ring of the first round that is met."""
    met = round_met(program)
    return NOTHING if met is None else told_rows(met[0], " ")


TELLS = {"show": told_text, "settle": told_settled, "ranks": told_ranks, "never": told_never, "round": told_round}


def told_most(program, place, numbers):
    """The most steps of a run from a place, by its name, with numbers."""
    if place not in program[1]:
        raise NoPlace(place)
    look_at_numbers(program, numbers)
    word, never, ranks, mixtures = settled(program)
    # where rows are left, these ranks are refused
    most = most_steps(program, never, ranks, place=program[1].index(place), numbers=numbers)
    return NOTHING if most is None else in_figures(most)


def read_coded(names, text):
    """The program made of a code's text as it is told on one row."""
    return made(names, read_code(names, rows_in(text).replace(AND_ON_ROW, AND)))


class Desk:
    """Programs by their names, and what was kept by the name of each deed that can be undone."""

    def __init__(self):
        self.shelf = {}
        self.past = []

    def say(self, row):
        """Answers a row."""
        words = words_of(row)
        word = words[0]
        if word == "names":
            return " ".join(sorted(self.shelf)) if self.shelf else NOTHING
        if word == "undo":
            return self.undo_last()
        if word == "program":
            return self.keep(words[1], read_program(rows_in(words[2])))
        if word == "code":
            return self.keep(words[1], read_coded(names_in(words[2]), words[3]))
        return self.say_of(words)

    def say_of(self, words):
        """Answers a row that asks for a program by its name."""
        word = words[0]
        name = words[1]
        numbers = fractions_in(words[3]) if word == "most" else []
        if name not in self.shelf:
            raise NoName(name)
        program = self.shelf[name]
        if word == "drop":
            return self.keep(name, None)
        if word == "most":
            return told_most(program, words[2], numbers)
        tell = TELLS[word]
        return tell(program)

    def keep(self, name, program):
        """Keeps a program by a name, or none by it."""
        self.past.append((name, self.shelf.get(name)))
        self.lay(name, program)
        return OK

    def lay(self, name, program):
        """Puts a program by its name, or takes it away where it is None."""
        if program is not None:
            self.shelf[name] = program
        elif name in self.shelf:
            del self.shelf[name]

    def undo_last(self):
        """Undoes the last deed."""
        if self.past == []:
            raise NoDeed("no deed is left to be undone")
        name, program = self.past.pop()
        self.lay(name, program)
        return OK
