"""Floors, shapes, what is seen and round rows, read from texts."""

from windowfloor.errors import NoText
from windowfloor.floors import MOST_PLACES, size
from windowfloor.shapes import is_shape
from windowfloor.showing import FIGURES, show_seen, show_shape
from windowfloor.words import is_row

NUMBER_FIGURES = "0123456789"
MOST_FIGURES = 6


def read_sign(figure):
    """Tell the sign that the figure writes, None for `?`."""
    if figure == "?":
        return None
    if figure not in FIGURES:
        raise NoText("a figure writes no sign")
    return FIGURES.index(figure)


def read_torn(text):
    """Tell the torn floor that the text writes."""
    torn = tuple([tuple([read_sign(figure) for figure in row]) for row in text.split("/")])
    high, wide = size(torn)
    if not 1 <= high * wide <= MOST_PLACES:
        raise NoText("a floor has 1 to 600 places")
    if any([len(row) != wide for row in torn]):
        raise NoText("the rows are of unlike lengths")
    return torn


def read_floor(text):
    """Tell the floor that the text writes."""
    if "?" in text:
        raise NoText("a floor has a sign at each place")
    return read_torn(text)


def cells_in(text):
    """Tell the rising tuple of the picture's cells at which something else than `.` stands."""
    rows = text.split("/")
    return tuple([(i, j) for i, row in enumerate(rows) for j, figure in enumerate(row) if figure != "."])


def read_shape(text):
    """Tell the shape that the picture shows."""
    shape = cells_in(text)
    # Many pictures have these cells, but only one is just so written.
    if not is_shape(shape) or show_shape(shape) != text:
        raise NoText("the text is no picture of a shape")
    return shape


def read_seen(text):
    """Tell (shape, seen) that the picture shows."""
    shape = cells_in(text)
    seen = tuple([read_sign(figure) for figure in text if figure not in "./"])
    if not is_shape(shape) or show_seen(shape, seen) != text:
        raise NoText("the text is no picture of what is seen")
    return (shape, seen)


def read_number(text):
    """Tell the number that at most six figures write, no 0 ahead but in 0."""
    if not 1 <= len(text) <= MOST_FIGURES or any([figure not in NUMBER_FIGURES for figure in text]):
        raise NoText("a number is one to six figures")
    if text[0] == "0" and text != "0":
        raise NoText("a 0 stands ahead of a number")
    return int(text)


def read_row(text):
    """Tell the round row that the text writes."""
    row = tuple([read_number(word) for word in text.split(",")])
    if not is_row(row):
        raise NoText("the numbers make no round row")
    return row
