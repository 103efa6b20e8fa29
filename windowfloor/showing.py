"""Floors, shapes, what is seen and round rows, written as texts."""

from windowfloor.basics import is_below

FIGURES = "0123456789abcdefghijklmnopqrstuvwxyz"


def show_sign(sign):
    """Tell the figure that writes the sign, or `?` for None."""
    if sign is None:
        return "?"
    # Nothing is promised of other numbers; what is written so is at least no sign.
    return FIGURES[sign] if is_below(sign, len(FIGURES)) else f"({sign})"


def show_torn(torn):
    """Tell the text that writes the torn floor."""
    return "/".join(["".join([show_sign(sign) for sign in row]) for row in torn])


def show_floor(floor):
    """Tell the text that writes the floor."""
    return show_torn(floor)


def show_picture(figure_by_cell):
    """Tell the picture with these figures at their cells, `.` else."""
    high = 1 + max([i for i, j in figure_by_cell], default=-1)
    wide = 1 + max([j for i, j in figure_by_cell], default=-1)
    return "/".join(["".join([figure_by_cell.get((i, j), ".") for j in range(wide)]) for i in range(high)])


def show_shape(shape):
    """Tell the picture of the shape."""
    return show_picture({cell: "#" for cell in shape})


def show_seen(shape, seen):
    """Tell the picture of the shape with what is seen at its cells."""
    return show_picture({cell: show_sign(sign) for cell, sign in zip(shape, seen)})


def show_row(row):
    """Tell the text that writes the round row."""
    return ",".join([str(number) for number in row])
