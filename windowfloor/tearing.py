"""How far the windows of a floor are apart, and so how many torn and wrong cells are borne."""

from windowfloor.floors import all_places
from windowfloor.windows import all_windows


def wrong_cells(signs, seen):
    """Tell in how many told cells the window's signs differ from what is seen."""
    return len([sign for sign, told in zip(signs, seen) if told is not None and told != sign])


def apart(floor, shape):
    """Tell (many, one, other): how far the nearest two windows are apart, and the least such places."""
    spots = all_places(floor)
    looks = all_windows(floor, shape)
    found = []
    for at, one in enumerate(spots):
        for other_at in range(at + 1, len(spots)):
            found.append((wrong_cells(looks[at], looks[other_at]), one, spots[other_at]))
    # Of a floor of one place there are no two.
    return min(found, default=None)


def bears(floor, shape):
    """Tell how many cells of a window may be torn, whichever, so that its place alone fits."""
    told = apart(floor, shape)
    # Where there is no other place all cells may be torn.
    if told is None:
        return len(shape)
    return told[0] - 1


def nearest(floor, shape, seen):
    """Tell (wrong, places): the least number of told cells that are wrong, and where it is so."""
    wrongs = [wrong_cells(signs, seen) for signs in all_windows(floor, shape)]
    least = min(wrongs)
    return (least, tuple([place for place, wrong in zip(all_places(floor), wrongs) if wrong == least]))
