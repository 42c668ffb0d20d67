"""What the tests share: strict comparison, lists for tuples, WORKS by a plain loop over small numbers."""

import copy

from ringkiln.errors import (BadLine, NoChamber, NoChoice, NoKind, NoPaper, NoRule, NoTick, NothingDone, NoWord, TooMany,
                             Unfit)

NOUGHTS = (0, 0, 0, 0, 0, 0, 0)
SHUT = (None, 0, 0, (), False, False, True)
MODULES = ("kinds", "chambers", "draughts", "ticks", "deeds", "runs", "fires", "rules", "steady", "pairs", "keeping",
           "saving", "stills", "back", "looks", "accounts", "repairs", "starts", "alike", "judge", "texts", "board", "desk")
ERRORS = (BadLine, NoChamber, NoChoice, NoKind, NoPaper, NoRule, NoTick, NothingDone, NoWord, TooMany, Unfit)


def strictly(one, other):
    """Whether both are one value, True being no 1 and a list no tuple."""
    if type(one) is not type(other):
        return False
    if isinstance(one, (list, tuple)):
        return len(one) == len(other) and all(strictly(a, b) for a, b in zip(one, other))
    return one == other


def listed(value):
    """The value with lists for tuples at every depth."""
    if isinstance(value, (list, tuple)):
        return [listed(part) for part in value]
    return value


def half_listed(value, depth=0):
    """The value with lists for tuples at every other depth."""
    if isinstance(value, (list, tuple)):
        parts = [half_listed(part, depth + 1) for part in value]
        return parts if depth % 2 else tuple(parts)
    return value


def answer(function, *values):
    """What a call returns, or the name and the attributes of the error that it raises."""
    try:
        return function(*values)
    except ERRORS as error:
        return "raises", type(error).__name__, tuple(sorted(vars(error).items()))


def raised(name, number=None):
    """What answer tells of an error."""
    return "raises", name, () if number is None else (("number", number),)


class Numbers:
    """A row of small numbers, the same each time."""

    def __init__(self, seed):
        self.state = (seed * 2654435761 + 12345) % 2 ** 31

    def below(self, bound):
        self.state = (self.state * 1103515245 + 12345) % 2 ** 31
        return (self.state >> 12) % bound

    def one_of(self, things):
        return things[self.below(len(things))]

    def many(self, most, make):
        return tuple(make() for _ in range(self.below(most + 1)))


def some_make(numbers):
    kinds = []
    for _ in range(1 + numbers.below(2)):
        mark = 1 + numbers.below(25)
        kinds.append((mark, 1 + numbers.below(3), mark + numbers.below(30)))
    return (tuple(kinds), numbers.below(8), 1 + numbers.below(25), 1 + numbers.below(30), 1 + numbers.below(70),
            numbers.one_of((0, 0, 2, 5, 10)))


def some_pile(numbers, most=3):
    return tuple(sorted(numbers.many(most, lambda: 1 + numbers.below(20))))


def some_green(numbers, make):
    return tuple((numbers.below(len(make[0])), 1 + numbers.below(60)) for _ in range(1 + numbers.below(2)))


def some_load(numbers, make):
    chance = numbers.below(8)
    if chance < 3:
        return None
    if chance == 3:
        return 1 + numbers.below(90)
    return tuple(pair + (numbers.below(4),) for pair in some_green(numbers, make))


def some_chamber(numbers, make):
    load = some_load(numbers, make)
    top = 0 if load is None else numbers.below(60)
    heat = numbers.below(numbers.one_of((2, 15, 60)))
    return (load, heat, top, some_pile(numbers), numbers.below(3) == 0, numbers.below(3) == 0, numbers.below(4) == 0)


def some_works(seed):
    """One WORKS of many, the same for the same seed."""
    numbers = Numbers(seed)
    make = some_make(numbers)
    chambers = tuple(some_chamber(numbers, make) for _ in range(3 + numbers.below(4)))
    return make, chambers, tuple(numbers.below(5) for _ in range(7))


def some_act(numbers, make):
    word = numbers.one_of(("set", "draw", "clear", "brick", "open", "damper", "screen", "coal", "wood"))
    if word == "set":
        return word, some_green(numbers, make)
    if word in ("damper", "screen"):
        return word, numbers.below(2) == 0
    if word == "coal":
        return word, some_pile(numbers)
    if word == "wood":
        return word, numbers.below(12)
    return (word,)


def some_test(numbers):
    word = numbers.one_of(("empty", "set", "slag", "below", "from", "pieces", "wicket", "damper", "screen"))
    if word in ("empty", "set", "slag"):
        return (word,)
    if word == "pieces":
        return word, numbers.below(4)
    if word in ("below", "from"):
        return word, numbers.below(50)
    return word, numbers.below(2) == 0


def some_rules(seed, make):
    numbers = Numbers(seed * 31 + 7)
    return numbers.many(4, lambda: (numbers.below(9) - 4, numbers.many(2, lambda: some_test(numbers)),
                                    some_act(numbers, make)))


def some_deed(numbers, works):
    act = some_act(numbers, works[0])
    return act[:1] + (numbers.below(len(works[1])),) + act[1:]


def some_told(seed, works, many):
    """Told DEEDS that can be done when their ticks come if no RULES are there, and some more."""
    numbers = Numbers(seed * 17 + 3)
    ticks = sorted(1 + numbers.below(many) for _ in range(numbers.below(5)))
    return tuple((tick, some_deed(numbers, works)) for tick in ticks)


def some_stills(seed, many):
    numbers = Numbers(seed * 13 + 5)
    return tuple(sorted({1 + numbers.below(many) for _ in range(numbers.below(3))}))


def heat_in(works):
    return sum(chamber[1] for chamber in works[1])


def kept(value):
    """A copy that nothing that is done to the value changes."""
    return copy.deepcopy(value)


def lively_works(seed):
    """A ring in which RULES open a wicket behind the front and a damper ahead of it: its FIRES often go round."""
    numbers = Numbers(seed * 7 + 1)
    make = (((12, 1 + numbers.below(3), 90),), 0, 8, numbers.one_of((8, 20)), 1000, numbers.one_of((0, 0, 0, 12)))
    mouth = (None, 4 + numbers.below(6), 0, (), True, False, False)
    hot = (None, 16 + numbers.below(12), 0, some_pile(numbers, 1), False, False, False)
    flue = (None, 6 + numbers.below(8), 0, (), False, True, False)
    ahead = (numbers.one_of((None, None, ((0, 5, 0),))), numbers.below(5), 0, (), True, True, False)
    cold = (None, 0, 0, (), False, False, False)
    parts = (mouth, hot, flue, ahead) + (cold,) * numbers.below(3)
    return make, parts * (1 + numbers.below(2)), NOUGHTS


def lively_rules(seed):
    """The RULES for such rings: coal to the front, doors that go along with it, sometimes one more or one less."""
    numbers = Numbers(seed * 11 + 2)
    rules = [(0, (("pieces", 1),), ("coal", (6 + numbers.below(9),))), (-1, (), ("open",)), (1, (), ("brick",)),
             (0, (), ("damper", False)), (1 + numbers.below(2), (), ("damper", True))]
    if numbers.below(3) == 0:
        rules[numbers.below(5)] = (-1, (("set",),), ("draw",))
    if numbers.below(3) == 0:
        rules.append((numbers.below(4) - 2, (("empty",), ("from", 3)), ("set", ((0, 5),))))
    return tuple(rules)
