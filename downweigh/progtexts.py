"""Programs written as rows of text, and read back."""

from downweigh.errors import NoProgram, NoText
from downweigh.linetexts import read_wish, shown_wish
from downweigh.programs import MOST_NAMES, MOST_PLACES, MOST_ROWS, MOST_WISHES, look_at, look_at_names

NUMBERS = "numbers"
PLACES = "places"
ROW = "row"
BEHIND = "'"


def both_sides(names):
    """What the numbers ahead and then those behind are called in a row's wishes."""
    return names + [name + BEHIND for name in names]


def shown_program(program):
    """A program's text."""
    look_at(program)
    names, places, rows = program
    texts = [" ".join([NUMBERS, *names]), " ".join([PLACES, *places])]
    for start, to, wishes in rows:
        texts.append(" ".join([ROW, places[start], places[to]]))
        texts.extend([shown_wish(both_sides(names), wish) for wish in wishes])
    return "\n".join(texts)


def read_names(word, most, texts, at):
    """The names behind a word on a row of text."""
    words = texts[at].split(" ")
    if words[0] != word:
        raise NoText(at)
    try:
        look_at_names(word, words[1:], most)
    except NoProgram:
        raise NoText(at) from None
    return words[1:]


def read_way(places, text):
    """The start and the end of the row that a row of text begins; None where it begins none."""
    words = text.split(" ")
    # a number may be called `row`, too, and a wish begin with it: the places tell which it is
    if len(words) != 3 or words[0] != ROW or words[1] not in places or words[2] not in places:
        return None
    return (places.index(words[1]), places.index(words[2]))


def read_wish_at(names, texts, at):
    """The wish that a row of text writes."""
    try:
        return read_wish(names, texts[at])
    except NoText:
        raise NoText(at) from None


def read_rows(names, places, texts):
    """The rows that the rows of text behind those of names write."""
    rows = []
    for at in range(2, len(texts)):
        way = read_way(places, texts[at])
        if way is not None:
            if len(rows) == MOST_ROWS:
                raise NoText(at)
            rows.append((way[0], way[1], []))
        else:
            if rows == [] or len(rows[-1][2]) == MOST_WISHES:
                raise NoText(at)
            rows[-1][2].append(read_wish_at(both_sides(names), texts, at))
    return rows


def read_program(text):
    """The program that a text writes; of anything."""
    if not isinstance(text, str):
        raise NoText(0)
    texts = text.split("\n")
    names = read_names(NUMBERS, MOST_NAMES, texts, 0)
    if len(texts) == 1:
        raise NoText(1)
    places = read_names(PLACES, MOST_PLACES, texts, 1)
    return (names, places, read_rows(names, places, texts))
