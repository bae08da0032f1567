"""Texts: how ratios and curves are written, and which texts of them are read."""

from curvehouse.curves import curve
from curvehouse.errors import NoCurve, NoText
from curvehouse.wholes import divisor

FIGURES = "0123456789"
MOST_FIGURES = 60


def show_ratio(x):
    if x[1] == 1:
        return str(x[0])
    top = x[0]
    bottom = x[1]
    return f"{top}/{bottom}"


def read_ratio(text):
    check_text(text)
    parts = text.split("/")
    if len(parts) > 2:
        raise NoText("a ratio has at most one stroke")
    top = read_figures(parts[0])
    if len(parts) == 1:
        return (top, 1)
    bottom = read_figures(parts[1])
    if bottom < 2 or divisor(top, bottom) != 1:
        raise NoText("a ratio stands in lowest terms, with a bottom from 2 on where one is written")
    return (top, bottom)


def check_text(thing):
    if not isinstance(thing, str):
        raise NoText("only a text is read")


def read_figures(text):
    # The length is looked at ahead of the figures: a long text is never made into a number.
    if len(text) == 0 or len(text) > MOST_FIGURES:
        raise NoText("a number has one to sixty figures")
    for sign in text:
        if sign not in FIGURES:
            raise NoText("a number has no signs but the ten figures")
    if text[0] == "0" and len(text) > 1:
        raise NoText("a number has no noughts ahead")
    return int(text)


def read_whole(text):
    found = read_ratio(text)
    if found[1] != 1:
        raise NoText("a whole number has no bottom")
    return found[0]


def show_curve(f):
    return " ".join([show_corner(corner) for corner in f[0]] + ["+" + show_ratio(f[1])])


def show_corner(corner):
    return ":".join([show_ratio(corner[0]), show_ratio(corner[1])])


def read_curve(text):
    check_text(text)
    words = text.split(" ")
    corners = [read_corner(word) for word in words[:-1]]
    last = read_last(words[-1])
    try:
        return curve(corners, last)
    except NoCurve as e:
        raise NoText("these corners make no curve") from e


def read_corner(word):
    parts = word.split(":")
    if len(parts) != 2:
        raise NoText("a corner has just one colon")
    return (read_ratio(parts[0]), read_ratio(parts[1]))


def read_last(word):
    if not word.startswith("+"):
        raise NoText("the last slope stands behind a plus")
    return read_ratio(word[1:])
