"""Machines: states that go on step by step, each by a sum of its own numbers."""

from windowfloor.basics import gone_round, is_below, is_whole, power
from windowfloor.words import MOST_NUMBERS

FACTORS = (2, 3, 5, 7)
MOST_TAPS = 9


def is_machine(thing):
    """Tell, of anything, whether it is a machine."""
    if not isinstance(thing, tuple) or len(thing) != 2:
        return False
    k, taps = thing
    if not is_whole(k) or k not in FACTORS or not isinstance(taps, tuple):
        return False
    if not 1 <= len(taps) <= MOST_TAPS or power(k, len(taps)) > MOST_NUMBERS:
        return False
    return all([is_below(tap, k) for tap in taps]) and taps[0] != 0


def next_state(machine, state):
    """Tell the state behind one step."""
    k, taps = machine
    return state[1:] + (sum([tap * number for tap, number in zip(taps, state)]) % k,)


def states_from(machine, state):
    """Tell the list of the states from this one on, until it comes again."""
    # As the first tap is not 0, each state comes behind one state alone: so it is the first to come again.
    return gone_round(state, lambda now: next_state(machine, now))


def stepped(machine, state, many):
    """Tell the state behind so many steps."""
    states = states_from(machine, state)
    return states[many % len(states)]


def machine_row(machine, state):
    """Tell the round row of the first numbers of the states from this one on."""
    return tuple([now[0] for now in states_from(machine, state)])


def last_one(machine):
    """Tell the state of noughts and a last 1."""
    return (0,) * (len(machine[1]) - 1) + (1,)


def order(machine):
    """Tell the least number from 1 of steps behind which each state is itself again."""
    # From noughts and a last 1 on come m states of which all states are sums: when this one comes again all do.
    return len(states_from(machine, last_one(machine)))


def is_greatest(machine):
    """Tell whether a state goes through all but that of noughts alone."""
    # Such a state would come to noughts and a last 1, and go on from there.
    return order(machine) == power(machine[0], len(machine[1])) - 1
