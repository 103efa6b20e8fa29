"""Whether something shows how the cycles of an even rule are joined."""

from windowfloor.basics import is_pair_below
from windowfloor.joins import first_worth
from windowfloor.rules import cycle_from, cycles, is_rule
from windowfloor.words import is_row


def may_join(k, n, puts, thing):
    """Tell, of anything, whether it is a pair of kin words of unlike cycles by what is put now."""
    many = len(puts)
    if not is_pair_below(thing, many, many):
        return False
    one, other = thing
    if one >= other or (other - one) % first_worth(k, n) != 0:
        return False
    return other not in cycle_from(k, puts, one)


def shows_joins(k, n, rule, thing):
    """Tell, of anything, whether it is (row, joins) as joined tells them of the even rule."""
    if not is_rule(k, n, rule) or not isinstance(thing, tuple) or len(thing) != 2:
        return False
    row, joins = thing
    # A row of truths would be the same to Python as one of numbers.
    if not is_row(row) or not isinstance(joins, tuple):
        return False
    puts = list(rule)
    for pair in joins:
        if not may_join(k, n, puts, pair):
            return False
        one, other = pair
        puts[one], puts[other] = puts[other], puts[one]
    return cycles(k, n, tuple(puts)) == (row,)
