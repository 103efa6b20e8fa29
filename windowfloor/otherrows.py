"""Full rows made in two other ways: by the greatest number each time, and by a walk."""

from windowfloor.words import count_words


def greatest_new(head, k, stood):
    """Tell the greatest number that makes of the head a word that didn't stand yet, or None."""
    for number in reversed(range(k)):
        if head + (number,) not in stood:
            return number
    return None


def greatest_row(k, n):
    """Tell the full row that puts the greatest number that it can behind n noughts, again and again."""
    many = count_words(k, n)
    row = [0] * n
    head = (0,) * (n - 1)
    stood = {tuple(row): True}
    put = greatest_new(head, k, stood)
    while put is not None:
        word = head + (put,)
        row.append(put)
        stood[word] = True
        head = word[1:]
        put = greatest_new(head, k, stood)
    return tuple(row[:many])


def walked_numbers(k, start):
    """Tell the list of the numbers put on a round walk from the start that takes each step once.

    One stands on a word of n - 1 numbers; to put a number behind it is a step, and makes a word of n.
    """
    numbers = []
    steps_taken = {}
    trail = [(start, None)]
    while trail:
        head, put = trail[-1]
        step = steps_taken.get(head, 0)
        if step < k:
            steps_taken[head] = step + 1
            trail.append(((head + (step,))[1:], step))
        else:
            # No step is left from here, so the one that led here is the last of those not told yet.
            numbers.append(put)
            trail.pop()
    # The last one told is the start itself, to which nothing led.
    numbers.pop()
    return numbers[::-1]


def walked_row(k, n):
    """Tell a full row that begins with n noughts, found by a walk."""
    many = count_words(k, n)
    start = (0,) * (n - 1)
    # The first step goes from the start to itself by 0, and stays the first: so n noughts stand ahead.
    return tuple((list(start) + walked_numbers(k, start))[:many])
