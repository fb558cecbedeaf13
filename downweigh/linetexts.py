"""Lines and wishes written by names of numbers, and read back."""

from downweigh.errors import NoText
from downweigh.figures import in_figures, is_figures, of_figures
from downweigh.wishes import JUST, LEAST

AT_LEAST = " >= 0"
JUST_SO = " = 0"


def shown_size(size, name):
    """A number above nought and the name it is a factor of; without a name it is plain."""
    if name == "":
        return in_figures(size)
    if size == 1:
        return name
    return f"{in_figures(size)}*{name}"


def shown_line(names, line):
    """A line's text."""
    text = ""
    for number, name in zip(line, ["", *names]):
        if number == 0:
            continue
        if text == "":
            sign = "-" if number < 0 else ""
        else:
            sign = " - " if number < 0 else " + "
        text = text + sign + shown_size(abs(number), name)
    return text if text != "" else "0"


def shown_wish(names, wish):
    """A wish's text."""
    word, line = wish
    return shown_line(names, line) + (JUST_SO if word == JUST else AT_LEAST)


def read_size(spots, text):
    """Where a number stands in a line, and its size; spots says where each name stands."""
    size, star, name = text.partition("*")
    if star == "" and size in spots:
        return (spots[size], 1)
    if not is_figures(size):
        raise NoText(0)
    if star == "":
        return (0, of_figures(size))
    if name not in spots:
        raise NoText(0)
    return (spots[name], of_figures(size))


def read_signs(words):
    """For each of the numbers in words of a line whether it is below nought, and its size's text."""
    below = words[0].startswith("-")
    told = [(below, words[0][1:] if below else words[0])]
    for sign, size in zip(words[1::2], words[2::2]):
        told.append((sign == "-", size))
    return told


def read_line(names, text):
    """The line that a text writes; of anything."""
    if not isinstance(text, str):
        raise NoText(0)
    spots = {name: at + 1 for at, name in enumerate(names)}
    line = [0] * (len(names) + 1)
    for below, words in read_signs(text.split(" ")):
        at, size = read_size(spots, words)
        line[at] = -size if below else size
    # a nought, a `1*`, another sign, a name twice or out of order: read so far, but no line is written so
    if shown_line(names, line) != text:
        raise NoText(0)
    return line


def read_wish(names, text):
    """The wish that a text writes; of anything."""
    if not isinstance(text, str):
        raise NoText(0)
    if text.endswith(AT_LEAST):
        return (LEAST, read_line(names, text.removesuffix(AT_LEAST)))
    if text.endswith(JUST_SO):
        return (JUST, read_line(names, text.removesuffix(JUST_SO)))
    raise NoText(0)
