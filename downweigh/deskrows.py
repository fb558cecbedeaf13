"""The rows that a desk is told: how many words they have, and what these must be."""

from downweigh.errors import NoLine, NoProgram, NoText
from downweigh.numbers import read_fraction
from downweigh.programs import MOST_NAMES, is_letters, look_at_names

MANY_WORDS = {
    "program": 3, "code": 4, "drop": 2, "names": 1, "show": 2, "settle": 2, "ranks": 2, "never": 2, "round": 2,
    "most": 4, "undo": 1,
}
# the last word of these is a text, with blanks in it or without signs
WITH_TEXT = ("program", "code")
LONGEST_KEPT = 8
FEED = "; "


def cut_words(row, many):
    """The words of a row, the last one being all that is behind so many others less one."""
    words = row.split(" ")
    if len(words) < many:
        return words
    return [*words[:many - 1], " ".join(words[many - 1:])]


def words_of(row):
    """The words of anything that is a row of as many words as its first one asks for."""
    if not isinstance(row, str) or "\n" in row:
        raise NoLine("this is no row of text")
    words = row.split(" ")
    many = MANY_WORDS.get(words[0], 0)
    plain = words
    if words[0] in WITH_TEXT:
        words = cut_words(row, many)
        plain = words[:many - 1]
    if len(words) != many or "" in plain:
        raise NoLine("there are too few words, too many, or others")
    if many > 1 and not is_letters(words[1], LONGEST_KEPT):
        raise NoLine("nothing is kept by such a name")
    return words


def names_in(text):
    """The names of numbers that stand in a text, parted by commas."""
    names = text.split(",")
    try:
        look_at_names("names", names, MOST_NAMES)
    except NoProgram:
        raise NoLine("these are no names of numbers") from None
    return names


def fractions_in(text):
    """The fractions that stand in a text, parted by commas."""
    try:
        return [read_fraction(part) for part in text.split(",")]
    except NoText:
        raise NoLine("these are no fractions") from None


def rows_in(text):
    """A text of rows, parted by line feeds, as it is told on one row."""
    return text.replace(FEED, "\n")


def on_one_row(text):
    """A text of rows as it is told on one row."""
    return text.replace("\n", FEED)
