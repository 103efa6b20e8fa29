"""Floors folded of a row, and reading by sums where a machine's folded row is seen."""

from windowfloor.basics import greatest_part
from windowfloor.errors import NoWay
from windowfloor.machines import states_from
from windowfloor.pairing import meeting
from windowfloor.seeing import shown, state_by


def refuse_parted(high, wide):
    """Refuse where a number above 1 parts both: then the row would not come to all places."""
    if greatest_part(high, wide) > 1:
        raise NoWay("a number above 1 parts both high and wide")


def folded(row, high, wide):
    """Tell the floor with each sign of the row where its place's rests by high and by wide say."""
    if len(row) != high * wide:
        raise NoWay("the row has not high times wide signs")
    refuse_parted(high, wide)
    return tuple([tuple([row[meeting(r, high, c, wide)] for c in range(wide)]) for r in range(high)])


def pattern_of(shape, high, wide):
    """Tell for each cell how many places further on in the row its sign stands."""
    refuse_parted(high, wide)
    return tuple([meeting(i % high, high, j % wide, wide) for i, j in shape])


def read_folded(machine, state, high, wide, shape, paper, seen):
    """Tell the place at which the floor folded of the state's row shows what is seen, or None."""
    states = states_from(machine, state)
    told = state_by(paper, seen, machine[0])
    # The paper may leave out some cells: they, too, must be those of this place.
    if told not in states or shown(machine, pattern_of(shape, high, wide), told) != seen:
        return None
    at = states.index(told)
    return (at % high, at % wide)
