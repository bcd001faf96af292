"""Fractions as texts: written and read."""

from lotmeal.errors import NoText
from lotmeal.fractions import fraction

FIGURES = "0123456789"
MOST_FIGURES = 60


def in_figures(number):
    # Python refuses to write a very long number at once, so it is written piece by piece.
    piece = 10 ** 60
    parts = []
    while number >= piece:
        parts.append(str(number % piece).zfill(60))
        number = number // piece
    parts.append(str(number))
    parts.reverse()
    return "".join(parts)


def shown(one):
    top = in_figures(abs(one[0]))
    if one[0] < 0:
        top = "-" + top
    if one[1] == 1:
        return top
    return top + "/" + in_figures(one[1])


def is_figures(text):
    """Whether a text is a whole number from 0 on as it is written, of no more figures than are read."""
    if text == "" or len(text) > MOST_FIGURES:
        return False
    if text.startswith("0") and text != "0":
        return False
    # Python's own isdigit takes the figures of other writings too.
    return all([sign in FIGURES for sign in text])


def read_top(text):
    below = text.startswith("-")
    bare = text[1:] if below else text
    if not is_figures(bare) or text == "-0":
        raise NoText("the top of a fraction is not written so")
    return -int(bare) if below else int(bare)


def read_bottom(text):
    if not is_figures(text) or text in ("0", "1"):
        raise NoText("the bottom of a fraction is not written so")
    return int(text)


def read(text):
    if not isinstance(text, str):
        raise NoText("a fraction is read from a text alone")
    parts = text.partition("/")
    top = read_top(parts[0])
    if parts[1] == "":
        return fraction(top)
    bottom = read_bottom(parts[2])
    if fraction(top, bottom) != (top, bottom):
        raise NoText("the fraction is not in lowest terms")
    return (top, bottom)
