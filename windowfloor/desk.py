"""A desk: it keeps a floor, and answers lines of words about it."""

from windowfloor.bars import barred, most_places
from windowfloor.errors import NoLine, NoText
from windowfloor.filling import filled
from windowfloor.floors import MOST_PLACES, MOST_SIGNS, size
from windowfloor.folding import folded
from windowfloor.laying import full_floor, laid
from windowfloor.machines import is_machine, last_one, machine_row
from windowfloor.moves import is_move, moved_floor
from windowfloor.pairing import paired
from windowfloor.reading import read_floor, read_number, read_row, read_seen, read_shape, read_torn
from windowfloor.shapes import MOST_CELLS
from windowfloor.shifts import beside, kept_by, least_of
from windowfloor.showing import show_floor
from windowfloor.tearing import bears, nearest
from windowfloor.windows import places_of, twins

MOST_SHIFTED_PLACES = 100
MOST_APART_PLACES = 64
MOST_TORN_PLACES = 40


def demand(holds):
    """Refuse the line where this doesn't hold."""
    if not holds:
        raise NoLine("the line is none that the desk knows, or its numbers and signs are not as they must be")


def read_numbers(words):
    """Tell the list of the numbers that the words write."""
    return [read_number(word) for word in words]


def read_whole(word):
    """Tell the number that the word writes, perhaps with `-` ahead."""
    if not word.startswith("-"):
        return read_number(word)
    demand(word != "-0")
    return -read_number(word[1:])


def count_places(torn):
    """Tell how many places the torn floor has."""
    high, wide = size(torn)
    return high * wide


def has_signs_below(torn, k):
    """Tell whether all signs that are told are below k."""
    return all([sign is None or sign < k for row in torn for sign in row])


def is_box_of_signs(k, a, b):
    """Tell whether these are a count of signs, and the rows and columns of a box."""
    return 1 <= k <= MOST_SIGNS and a >= 1 and b >= 1 and a * b <= MOST_CELLS


def show_places(places):
    """Tell the places as texts with blanks between, `-` for none."""
    return " ".join([f"{r},{c}" for r, c in places]) if places else "-"


def shift_deed(floor, words):
    """Tell the floor behind `shift I J`."""
    i, j = [read_whole(word) for word in words]
    return moved_floor(("shift", i, j), floor)


def cross_deed(floor, words):
    """Tell the floor behind `cross`."""
    return moved_floor(("cross",), floor)


def flip_deed(floor, words):
    """Tell the floor behind `flip`."""
    return moved_floor(("flip",), floor)


def signs_deed(floor, words):
    """Tell the floor behind `signs ROW`."""
    move = ("signs", read_row(words[0]))
    demand(is_move(move) and has_signs_below(floor, len(move[1])))
    return moved_floor(move, floor)


def beside_deed(floor, words):
    """Tell the floor behind `beside DOWN RIGHT`."""
    down, right = read_numbers(words)
    demand(down >= 1 and right >= 1)
    return beside(floor, down, right)


def lay_deed(floor, words):
    """Tell the floor behind `lay BASE STEPS`."""
    base, steps = [read_row(word) for word in words]
    demand(max(base) < MOST_SIGNS and max(steps) < len(base))
    return laid(base, steps)


def full_deed(floor, words):
    """Tell the floor behind `full K A B`."""
    k, a, b = read_numbers(words)
    demand(is_box_of_signs(k, a, b))
    return full_floor(k, a, b)


def pair_deed(floor, words):
    """Tell the floor behind `pair K FLOOR`."""
    k = read_number(words[0])
    other = read_floor(words[1])
    demand(1 <= k <= MOST_SIGNS and has_signs_below(other, k))
    return paired(floor, other, k)


def fold_deed(floor, words):
    """Tell the floor behind `fold K TAPS HIGH WIDE`."""
    machine = (read_number(words[0]), read_row(words[1]))
    high, wide = read_numbers(words[2:])
    demand(is_machine(machine) and high >= 1 and wide >= 1)
    return folded(machine_row(machine, last_one(machine)), high, wide)


def show_answer(floor, words):
    """Answer `show`."""
    return show_floor(floor)


def size_answer(floor, words):
    """Answer `size`."""
    high, wide = size(floor)
    return f"{high} {wide}"


def whole_answer(floor, words):
    """Answer `whole SHAPE`."""
    pair = twins(floor, read_shape(words[0]))
    return "whole" if pair is None else show_places(pair)


def where_answer(floor, words):
    """Answer `where SEEN`."""
    shape, seen = read_seen(words[0])
    return show_places(places_of(floor, shape, seen))


def near_answer(floor, words):
    """Answer `near SEEN`."""
    shape, seen = read_seen(words[0])
    demand(2 <= count_places(floor) <= MOST_APART_PLACES)
    wrong, places = nearest(floor, shape, seen)
    return f"{wrong} {show_places(places)}"


def bears_answer(floor, words):
    """Answer `bears SHAPE`."""
    shape = read_shape(words[0])
    if count_places(floor) == 1:
        return "any"
    demand(count_places(floor) <= MOST_APART_PLACES)
    return str(bears(floor, shape))


def keeps_answer(floor, words):
    """Answer `keeps`."""
    demand(count_places(floor) <= MOST_SHIFTED_PLACES)
    return show_places(kept_by(floor))


def least_answer(floor, words):
    """Answer `least`."""
    demand(count_places(floor) <= MOST_SHIFTED_PLACES)
    return show_floor(least_of(floor)[0])


def bar_answer(floor, words):
    """Answer `bar K A B HIGH WIDE`."""
    k, a, b, high, wide = read_numbers(words)
    # A floor of so many rows or columns has as many places at least.
    demand(is_box_of_signs(k, a, b) and 1 <= high <= MOST_PLACES and 1 <= wide <= MOST_PLACES)
    word = "barred" if barred(k, a, b, high, wide) else "open"
    return f"{word} {most_places(k, a, b, high, wide)}"


def fill_answer(floor, words):
    """Answer `fill K SHAPE TORN`."""
    k = read_number(words[0])
    shape = read_shape(words[1])
    torn = read_torn(words[2])
    demand(2 <= k <= MOST_SIGNS and count_places(torn) <= MOST_TORN_PLACES and has_signs_below(torn, k))
    sort, told = filled(torn, k, shape)
    return show_floor(told) if sort == "floor" else "none"


# By the first word, and how many words there are in all.
DEEDS = {
    ("shift", 3): shift_deed,
    ("cross", 1): cross_deed,
    ("flip", 1): flip_deed,
    ("signs", 2): signs_deed,
    ("beside", 3): beside_deed,
    ("lay", 3): lay_deed,
    ("full", 4): full_deed,
    ("pair", 3): pair_deed,
    ("fold", 5): fold_deed,
}
ANSWERS = {
    ("show", 1): show_answer,
    ("size", 1): size_answer,
    ("whole", 2): whole_answer,
    ("where", 2): where_answer,
    ("near", 2): near_answer,
    ("bears", 2): bears_answer,
    ("keeps", 1): keeps_answer,
    ("least", 1): least_answer,
    ("bar", 6): bar_answer,
    ("fill", 4): fill_answer,
}


class Desk:
    """A floor that is kept, and those that it was ahead of each deed not undone."""

    def __init__(self, text):
        self.floor = read_floor(text)
        self.past = []

    def say(self, line):
        """Tell the answer to the line."""
        demand(isinstance(line, str))
        try:
            return self.answered(line.split(" "))
        except NoText:
            raise NoLine("a word writes nothing of its kind") from None

    def answered(self, words):
        """Tell the answer to the line of these words."""
        form = (words[0], len(words))
        if form == ("back", 1):
            return self.undone()
        if form in ANSWERS:
            answer = ANSWERS[form]
            return answer(self.floor, words[1:])
        demand(form in DEEDS)
        deed = DEEDS[form]
        # What is refused is refused here, ahead of any change.
        floor = deed(self.floor, words[1:])
        self.past.append(self.floor)
        self.floor = floor
        return "done"

    def undone(self):
        """Undo the last deed not undone."""
        if not self.past:
            return "nothing"
        self.floor = self.past.pop()
        return "done"
