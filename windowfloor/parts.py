"""Parts of a shape that tell the place, tears that don't leave enough, and the least boxes that bear so much."""

from windowfloor.basics import power
from windowfloor.floors import size
from windowfloor.shapes import MOST_CELLS, box
from windowfloor.tearing import bears
from windowfloor.windows import all_windows


def all_parts(many):
    """Tell the list of all parts of a shape of so many cells."""
    return [part_of(choice, many) for choice in range(power(2, many))]


def part_of(choice, many):
    """Tell the part with the cells whose bits are set in the choice."""
    return tuple([at for at in range(many) if choice >> at & 1])


def all_but(part, many):
    """Tell the part of the cells that the part has not."""
    return tuple([at for at in range(many) if at not in part])


def tells(looks, part):
    """Tell whether the windows' signs at the part's cells alone are unlike."""
    return len({tuple([signs[at] for at in part]) for signs in looks}) == len(looks)


def least_among(parts):
    """Tell the rising tuple of the parts with none of the others within them.

    Each part that has one of them within it is one of them: so it's enough to look at those of a cell less.
    """
    there = {part: True for part in parts}
    return tuple(sorted([part for part in parts if not any([less in there for less in of_a_cell_less(part)])]))


def of_a_cell_less(part):
    """Tell the list of the parts that the part becomes where one of its cells is left out."""
    return [part[:at] + part[at + 1:] for at in range(len(part))]


def least_parts(floor, shape):
    """Tell the rising tuple of all parts that tell, with none within them that does."""
    looks = all_windows(floor, shape)
    return least_among([part for part in all_parts(len(shape)) if tells(looks, part)])


def least_tears(floor, shape):
    """Tell the rising tuple of all tears, with none within them."""
    looks = all_windows(floor, shape)
    many = len(shape)
    return least_among([part for part in all_parts(many) if not tells(looks, all_but(part, many))])


def least_boxes(floor, many):
    """Tell the rising tuple of all least (a, b) for whose box the windows are many or more cells apart."""
    high, wide = size(floor)
    sizes = [(a, b) for a in range(1, high + 1) for b in range(1, wide + 1) if a * b <= MOST_CELLS]
    # Windows that are so many cells apart bear one torn cell less.
    there = {(a, b): True for a, b in sizes if bears(floor, box(a, b)) >= many - 1}
    return tuple([(a, b) for a, b in there if (a - 1, b) not in there and (a, b - 1) not in there])
