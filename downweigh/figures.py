"""Whole numbers from nought on in figures, however many these are.

Python itself writes and reads no more than a few thousand figures at once,
and told numbers may have more: so they are cut into pieces.
"""

FIGURES = "0123456789"
PIECE = 60
ABOVE_PIECE = 10 ** 60


def in_figures(whole):
    """A whole number's text, a `-` ahead below nought."""
    rest = abs(whole)
    pieces = []
    while rest >= ABOVE_PIECE:
        rest, piece = divmod(rest, ABOVE_PIECE)
        pieces.append(str(piece).zfill(PIECE))
    pieces.append(str(rest))
    if whole < 0:
        pieces.append("-")
    return "".join(reversed(pieces))


def is_figures(text):
    """Whether a text writes a whole number from nought on."""
    if text == "" or not all([sign in FIGURES for sign in text]):
        return False
    return text == "0" or text[0] != "0"


def of_figures(text):
    """The whole number that a text of figures writes."""
    first = len(text) % PIECE
    whole = int("0" + text[:first])
    for at in range(first, len(text), PIECE):
        whole = whole * ABOVE_PIECE + int(text[at:at + PIECE])
    return whole
