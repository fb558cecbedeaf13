"""Codes written as rows of text, and read back."""

from downweigh.codes import (
    DEEPEST, EITHER, FEWEST_CODES, MOST_CODES, MOST_PARTS, MOST_WANTED, PUT, READ, ROUND, WANT, look_at_code,
)
from downweigh.errors import NoText
from downweigh.linetexts import read_line, read_wish, shown_line, shown_wish

OR = "or"
END = "end"
BECOMES = " = "
AND = " ; "


def shown_wanted(names, word, wishes):
    """The row of text of a want, or the first one of a round."""
    if wishes == []:
        return word
    return f"{word} " + AND.join([shown_wish(names, wish) for wish in wishes])


def rows_of_part(names, part):
    """The rows of text of a part."""
    word = part[0]
    if word == PUT:
        return [f"{PUT} {names[part[1]]}{BECOMES}{shown_line(names, part[2])}"]
    if word == READ:
        return [f"{READ} {names[part[1]]}"]
    if word == WANT:
        return [shown_wanted(names, WANT, part[1])]
    if word == ROUND:
        return [shown_wanted(names, ROUND, part[1]), *rows_of(names, part[2]), END]
    rows = [EITHER]
    for at, code in enumerate(part[1]):
        rows.extend(rows_of(names, code) if at == 0 else [OR, *rows_of(names, code)])
    return [*rows, END]


def rows_of(names, code):
    """The rows of text of a code."""
    rows = []
    for part in code:
        rows.extend(rows_of_part(names, part))
    return rows


def shown_code(names, code):
    """A code's text."""
    look_at_code(names, code)
    return "\n".join(rows_of(names, code))


def number_of(names, name):
    """The number of a name."""
    if name not in names:
        raise NoText(0)
    return names.index(name)


def read_wanted(names, blank, text):
    """The wishes that stand behind a word and a blank."""
    texts = text.split(AND) if blank != "" else []
    if len(texts) > MOST_WANTED:
        raise NoText(0)
    return [read_wish(names, one) for one in texts]


def read_plain(names, word, blank, text):
    """The part without codes in it that a word, a blank and what stands behind it write."""
    if word == WANT:
        return (WANT, read_wanted(names, blank, text))
    if word == READ:
        return (READ, number_of(names, text))
    if word != PUT:
        raise NoText(0)
    name, sign, line = text.partition(BECOMES)
    return (PUT, number_of(names, name), read_line(names, line))


class Opened:
    """A part that is not ended yet: its word, a round's wishes, its codes so far, the last one not ended."""

    def __init__(self, word, wishes):
        self.word = word
        self.wishes = wishes
        self.codes = [[]]

    def told(self):
        """The part."""
        return (EITHER, self.codes) if self.word == EITHER else (ROUND, self.wishes, self.codes[0])


class Reading:
    """A code that is being read row by row: the whole, and all parts that are not ended yet within one another."""

    def __init__(self, names):
        self.called = names
        self.opened = [Opened("", [])]

    def code(self):
        """The code that is read on now."""
        return self.opened[-1].codes[-1]

    def take_row(self, text):
        """Takes one row of text more; refuses one that can't stand here."""
        if text == OR:
            self.take_or()
        elif text == END:
            self.take_end()
        else:
            self.take_part(text)

    def take_or(self):
        """Begins the next code of an either."""
        inner = self.opened[-1]
        if inner.word != EITHER or len(inner.codes) == MOST_CODES:
            raise NoText(0)
        inner.codes.append([])

    def take_end(self):
        """Ends a part with codes in it."""
        inner = self.opened[-1]
        if inner.word == "" or (inner.word == EITHER and len(inner.codes) < FEWEST_CODES):
            raise NoText(0)
        self.opened.pop()
        self.code().append(inner.told())

    def take_part(self, text):
        """Takes a part, or begins one with codes in it."""
        if len(self.code()) == MOST_PARTS:
            raise NoText(0)
        word, blank, rest = text.partition(" ")
        if text != EITHER and word != ROUND:
            self.code().append(read_plain(self.called, word, blank, rest))
            return
        if len(self.opened) == DEEPEST:
            raise NoText(0)
        self.opened.append(Opened(word, read_wanted(self.called, blank, rest)))


def read_code(names, text):
    """The code that a text writes; of anything."""
    if not isinstance(text, str):
        raise NoText(0)
    # no rows at all write no parts, but what has no signs is one row when it is split
    texts = text.split("\n") if text != "" else []
    reading = Reading(names)
    for at, row in enumerate(texts):
        try:
            reading.take_row(row)
        except NoText:
            raise NoText(at) from None
    if len(reading.opened) > 1:
        raise NoText(len(texts))
    return reading.code()
