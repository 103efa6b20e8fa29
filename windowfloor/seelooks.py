"""Whether something shows that a pattern sees the state of a machine, or that it is blind for it."""

from windowfloor.basics import is_named_pair, is_word
from windowfloor.seeing import all_ones, shown, state_by


def is_paper(machine, pattern, thing):
    """Tell, of anything, whether it has the factors by which what is shown makes up each state."""
    k, taps = machine
    m = len(taps)
    if not isinstance(thing, tuple) or len(thing) != m:
        return False
    if not all([is_word(factors, k, len(pattern)) for factors in thing]):
        return False
    # All states are sums of these, and what is shown of sums are the sums of what is shown.
    return all([state_by(thing, shown(machine, pattern, state), k) == state for state in all_ones(m)])


def is_unseen(machine, pattern, thing):
    """Tell, of anything, whether it is a state, not of noughts alone, that shows noughts alone."""
    k, taps = machine
    return is_word(thing, k, len(taps)) and any(thing) and not any(shown(machine, pattern, thing))


def shows_judged(machine, pattern, thing):
    """Tell, of anything, whether it is ("sees", paper) or ("blind", state), and is right."""
    if not is_named_pair(thing):
        return False
    name, told = thing
    if name == "sees":
        return is_paper(machine, pattern, told)
    return name == "blind" and is_unseen(machine, pattern, told)
