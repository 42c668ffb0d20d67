"""What happens in a run, one thing after another: a second reading of the tick that tells each step at each CHAMBER."""

import copy

from tests import oracle
from tests.support import Numbers, some_pile


def tried(state, deed):
    """The CHAMBER as it was ahead of a DEED that is done, None if it cannot be done."""
    if not 0 <= deed[1] < len(state["ring"]):
        return None
    before = copy.deepcopy(state["ring"][deed[1]])
    try:
        oracle.do(state, deed)
    except oracle.CannotBeDone:
        return None
    return before


def deeds_of_tick(state, rules, deeds, resting):
    """Steps 1 and 2: pairs (DEED done, the CHAMBER as it was ahead of it)."""
    done = [(deed, tried(state, deed)) for deed in deeds]
    ring = state["ring"]
    hot = [part["heat"] >= state["make"][2] for part in ring]
    fronts = [number for number in range(len(ring)) if hot[number] and not hot[(number + 1) % len(ring)]]
    for place, when, act in rules:
        for front in fronts:
            number = (front + place) % len(ring)
            if number not in resting and all(oracle.holds(ring[number], test) for test in when):
                deed = (act[0], number) + act[1:]
                done.append((deed, tried(state, deed)))
    return [(deed, before) for deed, before in done if before is not None]


def air_of_tick(state):
    """Steps 3 and 4: a list of (number, brought, taken, more heat, whether it has a SET, last of its DRAUGHT)."""
    told = []
    for row in oracle.stretches(state):
        air = 0
        for number in row:
            part = state["ring"][number]
            together = part["heat"] + air
            kept, goes = together - together // 2, together // 2
            told.append((number, air, goes, kept - part["heat"], isinstance(part["load"], list), number == row[-1]))
            part["heat"] = kept
            air = goes
        state["ledger"]["flue"] += air
    return told


def burnt_of_tick(state, numbers):
    """Step 5 at these CHAMBERS: pairs (number, strength)."""
    told = []
    for number in numbers:
        part = state["ring"][number]
        if part["coal"] and part["heat"] >= state["make"][2]:
            told.append((number, part["coal"].pop(0)))
            part["heat"] += told[-1][1]
            state["ledger"]["burnt"] += told[-1][1]
    return told


def earth_of_tick(state):
    """Step 6: pairs (number, share)."""
    earth = state["make"][5]
    told = [(number, part["heat"] // earth if earth else 0) for number, part in enumerate(state["ring"])]
    for number, share in told:
        state["ring"][number]["heat"] -= share
        state["ledger"]["earthed"] += share
    return told


def melted_of_tick(state):
    """Step 7: pairs (number, SET) of those that become SLAG."""
    told = []
    for number, part in enumerate(state["ring"]):
        before = copy.deepcopy(part["load"])
        oracle.mark_part(state["make"], part)
        if isinstance(before, list) and not isinstance(part["load"], list):
            told.append((number, before))
    return told


def ticks_of(play, resting=lambda tick: ()):
    """Tick by tick of a run: a dict of what is done in it, and the WORKS behind it; DEEDS that cannot be done pass."""
    works, rules, told, many = play
    state = oracle.opened(works)
    ticks = []
    for tick in range(1, many + 1):
        now = {"deeds": deeds_of_tick(state, rules, [deed for own, deed in told if own == tick], resting(tick))}
        now["air"] = air_of_tick(state)
        now["burnt"] = burnt_of_tick(state, sorted(row[0] for row in now["air"]))
        now["earth"] = earth_of_tick(state)
        now["melted"] = melted_of_tick(state)
        state["ledger"]["ticks"] += 1
        now["works"] = oracle.closed(state)
        ticks.append(now)
    return ticks


def rows_of(works, rules, many, resting=lambda tick: ()):
    """The list of the WORKS behind 0, 1, .. many ticks."""
    return [works] + [tick["works"] for tick in ticks_of((works, rules, (), many), resting)]


def yard_works(seed):
    """A WORKS in which bricks are set, burnt, drawn and melted."""
    numbers = Numbers(seed * 23 + 11)
    kinds = ((3 + numbers.below(6), 1 + numbers.below(2), 12 + numbers.below(30)),
             (2 + numbers.below(9), 1 + numbers.below(3), 11 + numbers.below(40)))
    make = (kinds[:1 + numbers.below(2)], numbers.below(3), 6 + numbers.below(5), 6 + numbers.below(20), 60,
            numbers.one_of((0, 0, 6, 9)))
    chambers = []
    for _ in range(3 + numbers.below(3)):
        green = tuple((numbers.below(len(make[0])), 1 + numbers.below(9), numbers.below(3))
                      for _ in range(1 + numbers.below(2)))
        load = numbers.one_of((None, green, green, 4 + numbers.below(9)))
        heat = numbers.below(numbers.one_of((6, 30)))
        doors = (numbers.below(3) > 0, numbers.below(3) > 0, numbers.below(3) == 0)
        chambers.append((load, heat, 0 if load is None else heat, some_pile(numbers)) + doors)
    return make, tuple(chambers), tuple(numbers.below(4) for _ in range(7))


def yard_rules(seed, make):
    """RULES that set, draw and clear at several places, and feed the FIRE."""
    numbers = Numbers(seed * 43 + 13)
    kind = numbers.below(len(make[0]))
    plain = [(0, (("pieces", 1),), ("coal", (5 + numbers.below(9),))), (1, (("set",),), ("draw",)), (1, (), ("open",)),
             (2, (("empty",),), ("set", ((kind, 3), (0, 2)))), (1, (("slag",),), ("clear",)), (-1, (), ("draw",)),
             (-1, (("empty",),), ("set", ((0, 7),))), (0, (("below", 12),), ("wood", 4)), (1, (), ("clear",)),
             (2, (), ("damper", True)), (1, (("empty",),), ("set", ((kind, 4),))), (0, (("set",),), ("draw",))]
    return tuple(numbers.one_of(plain) for _ in range(numbers.below(5)))
