"""What patterns show of a machine's states, and whether that tells the state."""

from windowfloor.basics import inverse
from windowfloor.machines import machine_row


def shown(machine, pattern, state):
    """Tell the first numbers of the states behind so many steps as the pattern's numbers say."""
    row = machine_row(machine, state)
    return tuple([row[steps % len(row)] for steps in pattern])


def only_one(at, many):
    """Tell the tuple of so many noughts, but a 1 at the place."""
    return tuple([1 if spot == at else 0 for spot in range(many)])


def all_ones(many):
    """Tell the list of the tuples of so many noughts, but one 1."""
    return [only_one(at, many) for at in range(many)]


def state_by(paper, seen, k):
    """Tell the state that the paper's sums tell of what is seen."""
    return tuple([sum([factor * sign for factor, sign in zip(factors, seen)]) % k for factors in paper])


def sum_rows(machine, pattern):
    """Tell the list with a row for each number of the pattern.

    First stand the factors of the state's numbers by which they make up what the pattern's number shows. Behind them
    stand the factors of all that is shown by which it makes up the same: so far this one alone.
    """
    columns = [shown(machine, pattern, state) for state in all_ones(len(machine[1]))]
    return [[column[at] for column in columns] + list(alone) for at, alone in enumerate(all_ones(len(pattern)))]


def lead_at(rows, start, c):
    """Tell the first place from the start on of a row that has no 0 in column c, or None."""
    for at in range(start, len(rows)):
        if rows[at][c] != 0:
            return at
    return None


def cleared(rows, lead, c, k):
    """Tell the rows, the one at the lead with 1 in column c, the others less so often it that they have 0 there."""
    factor = inverse(rows[lead][c], k)
    lead_row = [number * factor % k for number in rows[lead]]
    told = []
    for at, row in enumerate(rows):
        if at == lead:
            told.append(lead_row)
        else:
            told.append([(number - row[c] * less) % k for number, less in zip(row, lead_row)])
    return told


def solved(rows, m, k):
    """Tell (rows, leads): the rows cleared in as many of the first m columns as can be, and these columns.

    The first row has 1 in the first of these columns, the second in the second, and so on, all other rows 0.
    """
    leads = []
    for c in range(m):
        lead = lead_at(rows, len(leads), c)
        if lead is not None:
            first = len(leads)
            rows = rows[:first] + [rows[lead]] + rows[first:lead] + rows[lead + 1:]
            rows = cleared(rows, first, c, k)
            leads.append(c)
    return (rows, leads)


def unseen_state(rows, leads, m, k):
    """Tell a state, not of noughts alone, that shows noughts alone, where a column is no lead."""
    free = [c for c in range(m) if c not in leads][0]
    state = list(only_one(free, m))
    for row, lead in zip(rows, leads):
        state[lead] = -row[free] % k
    return tuple(state)


def judged(machine, pattern):
    """Tell ("sees", paper) where what is shown tells the state, else ("blind", state)."""
    k, taps = machine
    m = len(taps)
    rows, leads = solved(sum_rows(machine, pattern), m, k)
    if len(leads) < m:
        return ("blind", unseen_state(rows, leads, m, k))
    # The first m rows have one number of the state alone each: behind it stands what makes it up.
    return ("sees", tuple([tuple(row[m:]) for row in rows[:m]]))
