"""Rules: what is put behind each word, and the cycles in which the words go round."""

from windowfloor.basics import gone_round, is_below, power
from windowfloor.words import MOST_NUMBERS, word_at


def number_of(word, k):
    """Tell the word's number, read in base k, the first counting most."""
    total = 0
    for number in word:
        total = total * k + number
    return total


def word_of(number, k, n):
    """Tell the word of n numbers below k that has the number."""
    word = []
    for step in range(n):
        word.append(number % k)
        number //= k
    return tuple(word[::-1])


def follower(number, put, k, many):
    """Tell the number of the word that follows, of many words, where put is put behind."""
    # The rest by many drops the word's first number.
    return (number * k + put) % many


def is_rule(k, n, thing):
    """Tell, of anything, whether it is an even rule for k and n."""
    many = power(k, n)
    if many > MOST_NUMBERS or not isinstance(thing, tuple) or len(thing) != many:
        return False
    if not all([is_below(put, k) for put in thing]):
        return False
    return len({follower(number, put, k, many) for number, put in enumerate(thing)}) == many


def turning_rule(k, n):
    """Tell the rule that puts behind each word its own first number."""
    return tuple([word_of(number, k, n)[0] for number in range(power(k, n))])


def rule_of(row, k, n):
    """Tell the rule that puts behind each word what follows it in the full row."""
    put_behind = {}
    for at in range(len(row)):
        put_behind[number_of(word_at(row, n, at), k)] = row[(at + n) % len(row)]
    return tuple([put_behind[number] for number in range(len(row))])


def cycle_from(k, rule, start):
    """Tell the list of the numbers of the words in the start's cycle, from the start on."""
    return gone_round(start, lambda number: follower(number, rule[number], k, len(rule)))


def cycle_numbers(k, rule):
    """Tell the list of the lists of the numbers of each cycle's words, by rising least words, from these on."""
    told = []
    stood = set()
    for start in range(len(rule)):
        if start not in stood:
            numbers = cycle_from(k, rule, start)
            told.append(numbers)
            for number in numbers:
                stood.add(number)
    return told


def cycles(k, n, rule):
    """Tell the round rows of the even rule's cycles, by rising least words."""
    return tuple([tuple([word_of(number, k, n)[0] for number in numbers]) for numbers in cycle_numbers(k, rule)])
