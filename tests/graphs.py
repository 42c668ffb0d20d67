"""What can be seen of small WORKS, gone through by the second reading: plain sets, tried again until nothing changes."""

from tests import oracle
from tests.support import NOUGHTS, Numbers, some_act, some_works


def works_seen(make, seen):
    """A WORKS of which this is seen, with tops and a LEDGER of its own."""
    chambers = tuple((part[0], part[1], 0 if part[0] is None else 3) + part[2:] for part in seen)
    return make, chambers, (1, 2, 3, 4, 5, 6, 7)


def is_out_seen(make, seen):
    return all(part[1] < make[2] for part in seen)


def seen_graph(works, steps, cap):
    """A dict, in order, with what comes of each: steps is a list of functions from WORKS to WORKS; None if too many."""
    make = works[0]
    graph = {}
    rows = [oracle.seen(works)]
    while rows:
        later = []
        for seen in rows:
            if seen in graph:
                continue
            if len(graph) >= cap:
                return None
            graph[seen] = []
            if not is_out_seen(make, seen):
                graph[seen] = [oracle.seen(step(works_seen(make, seen))) for step in steps]
            later += graph[seen]
        rows = later
    return graph


def choice_graph(works, rules, choices, cap=150):
    return seen_graph(works, [lambda own, choice=choice: oracle.chosen(own, rules, choice) for choice in choices], cap)


def kept_in(graph):
    """The greatest lot of which each has a FIRE and leads to one of the lot."""
    lot = {seen for seen, row in graph.items() if row}
    while True:
        less = {seen for seen in lot if any(behind in lot for behind in graph[seen])}
        if less == lot:
            return lot
        lot = less


def dying_in(graph):
    """A dict with the ticks within which each is out, whatever is taken, for those that die so."""
    ticks = {seen: 0 for seen, row in graph.items() if not row}
    for tick in range(1, len(graph) + 1):
        more = [seen for seen, row in graph.items() if seen not in ticks and all(behind in ticks for behind in row)]
        if not more:
            break
        ticks.update({seen: tick for seen in more})
    return ticks


def reaching(graph, goals):
    """All from which some row leads to a goal."""
    found = set(goals)
    while True:
        more = {seen for seen, row in graph.items() if any(behind in found for behind in row)} - found
        if not more:
            return found
        found |= more


def plain_is_kept(works, rules, choices, thing):
    """Whether pairs of things that can be seen are a KEPT LOT."""
    make = works[0]
    row = [seen for seen, _ in thing]
    if oracle.seen(works) not in row or len(set(row)) < len(row):
        return False
    for seen, number in thing:
        if is_out_seen(make, seen) or number >= len(choices):
            return False
        if oracle.seen(oracle.chosen(works_seen(make, seen), rules, choices[number])) not in row:
            return False
    return True


def plain_is_death(works, rules, choices, thing):
    """Whether pairs of things that can be seen are a DEATH LIST."""
    make = works[0]
    row = dict(thing)
    if oracle.is_out(works):
        return thing == ()
    if oracle.seen(works) not in row or len(row) < len(thing):
        return False
    for seen, ticks in thing:
        if is_out_seen(make, seen) or ticks < 1:
            return False
        for choice in choices:
            behind = oracle.seen(oracle.chosen(works_seen(make, seen), rules, choice))
            if not is_out_seen(make, behind) and row.get(behind, ticks) >= ticks:
                return False
    return True


def small_works(seed):
    """A small WORKS with heat that lasts some ticks, sometimes one that lasts for ever."""
    if seed % 2:
        make, chambers, _ = some_works(seed)
        return make, chambers[:3 + seed % 3], NOUGHTS
    numbers = Numbers(seed * 5 + 3)
    make = (((12, 1 + numbers.below(3), 60),), numbers.below(3), 4 + numbers.below(8), 8, 60,
            numbers.one_of((0, 0, 4, 8, 10)))
    chambers = []
    for place in range(3 + numbers.below(2)):
        load = numbers.one_of((None, None, ((0, 3, 0),)))
        heat = 8 + numbers.below(30) if place == 0 else numbers.below(12)
        coal = (6 + numbers.below(12),) * numbers.below(3)
        doors = [numbers.below(3) == 0 for _ in range(3)]
        chambers.append((load, heat, 0, coal) + (doors[0] or place == 0, doors[1] or place == 0, doors[2]))
    return make, tuple(chambers), NOUGHTS


def small_rules(seed, make):
    """At most two RULES that let nothing pile up."""
    numbers = Numbers(seed * 3 + 1)
    plain = [(0, (("pieces", 1),), ("coal", (5 + numbers.below(9),))), (-1, (), ("open",)), (1, (), ("brick",)),
             (0, (("pieces", 1), ("from", 12)), ("coal", (9,))), (1, (("set",),), ("draw",)),
             (0, (("from", 30),), ("damper", False)), (0, (("below", 20),), ("damper", True))]
    return tuple(numbers.one_of(plain) for _ in range(numbers.below(3)))


def small_choices(seed, make):
    """At most three choices, the first one ()."""
    numbers = Numbers(seed * 19 + 5)
    plain = [("brick",), ("open",), ("damper", True), ("damper", False), ("coal", (6,)), ("coal", (4, 9)), ("wood", 5),
             ("wood", 8), ("wood", 13), ("screen", False), ("draw",)]
    choices = [()]
    for _ in range(numbers.below(3)):
        acts = [numbers.one_of(plain) if numbers.below(5) else some_act(numbers, make)
                for _ in range(1 + numbers.below(2))]
        choices.append(tuple((numbers.below(4) - 1, act) for act in acts))
    return tuple(choices)
