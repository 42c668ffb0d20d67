"""What all files share: the places in the tuples, and questions about things."""

STAY = 1

KINDS = 0
LAG = 1
KINDLING = 2
COOL = 3
BURNS = 4
EARTH = 5

LOAD = 0
HEAT = 1
TOP = 2
COAL = 3
WICKET = 4
DAMPER = 5
SCREEN = 6
PARTS = ("load", "heat", "top", "coal", "wicket", "damper", "screen")

NOUGHTS = (0, 0, 0, 0, 0, 0, 0)

TICKS = 0
FLUE = 1
EARTHED = 2
BURNT = 3
GOOD = 4
SOFT = 5
BROKEN = 6

FIGURES = "0123456789"


def tupled(value):
    """The value with a tuple in the place of each list, at any depth."""
    if isinstance(value, (list, tuple)):
        return tuple([tupled(part) for part in value])
    return value


def is_number(thing):
    """Whether thing is an integer, True and False being none."""
    return isinstance(thing, int) and not isinstance(thing, bool)


def is_from(thing, least):
    """Whether thing is a number from least on."""
    return is_number(thing) and thing >= least


def is_row(thing, many):
    """Whether thing is a tuple of so many things."""
    return isinstance(thing, tuple) and len(thing) == many


def same(one, other):
    """Whether both are one value, True being no 1 and a list no tuple."""
    if isinstance(one, tuple) and isinstance(other, tuple):
        return len(one) == len(other) and all([same(a, b) for a, b in zip(one, other)])
    return type(one) is type(other) and one == other


def replaced(row, at, value):
    """The row, a tuple, with value at this place."""
    return row[:at] + (value,) + row[at + 1:]


def grown(row, at, more):
    """The row, a tuple of numbers, with so much more at this place."""
    return replaced(row, at, row[at] + more)


def is_figures(word):
    """Whether a word is figures without a zero ahead."""
    return word != "" and all([sign in FIGURES for sign in word]) and (word[0] != "0" or word == "0")


def number_sets(many):
    """All sets of numbers below many, those of fewest members first, then by comparison."""
    sets = []
    longer = [()]
    while longer != []:
        sets.extend(longer)
        longer = [row + (last,) for row in longer for last in range(row[-1] + 1 if row != () else 0, many)]
    return sets
