"""RULES alike: whether two RULES do the same to every WORKS of a MAKE and a size.

A RULE reaches a CHAMBER once at most, and looks at it and changes it alone. So it is asked, for each set of places at
which a CHAMBER can lie, what both RULES do to one CHAMBER. All CHAMBERS are gone through by boxes: a box has a range
(least, one above the greatest) for each of the things that TESTS look at, and is cut where RULES do.
"""

from ringkiln.chambers import holds_at, is_works, seen_in
from ringkiln.deeds import deed_of, works_behind
from ringkiln.errors import NoPaper, TooMany
from ringkiln.keeping import MOST_SEEN
from ringkiln.rules import ruled
from ringkiln.runs import tick_by
from ringkiln.shapes import COAL, COOL, HEAT, KINDLING, NOUGHTS, number_sets, replaced, same, tupled
from ringkiln.steady import MOST_CHAMBERS

LEAST_SIZE = 3

# The ranges of a box, behind that of its load: 0 if it is empty, 1 for a SET, 2 for SLAG. A door is 1 for True.
OWN_HEAT = 1
OWN_PIECES = 2
OWN_DOORS = {"wicket": 3, "damper": 4, "screen": 5}


def tests_of_act(make, act):
    """The TESTS that hold where an ACT can be done; None if it can be done nowhere."""
    word = act[0]
    ready = (("wicket", True), ("below", make[COOL]))
    if word == "set":
        return (("empty",),) + ready
    if word == "draw":
        return (("set",),) + ready
    if word == "clear":
        return (("slag",),) + ready
    if word in ("brick", "open"):
        return (("wicket", word == "brick"),)
    if word in ("damper", "screen"):
        return ((word, not act[1]),)
    return None if act[1] in ((), 0) else ()


def bare_rules(make, rules, size, places):
    """What RULES do at a CHAMBER that lies at these places: pairs (all TESTS that it wants, ACT), in order."""
    found = []
    for place, when, act in rules:
        ready = tests_of_act(make, act)
        if place % size in places and ready is not None:
            found.append((when + ready, act))
    return found


def cuts_of(test, first, now):
    """Where a TEST at a CHAMBER as it is now parts the CHAMBERS that first is one of: pairs (range, number)."""
    word = test[0]
    if word in OWN_DOORS:
        return [(OWN_DOORS[word], 1)]
    if word in ("below", "from"):
        return [(OWN_HEAT, test[1] - now[HEAT] + first[HEAT])]
    if word == "pieces":
        return [(OWN_PIECES, test[1] - len(now[COAL]) + len(first[COAL]))]
    return []


def walked(make, chamber, rows):
    """The pair (one CHAMBER and the LEDGER behind rows of bare_rules, the cuts of all TESTS on the way)."""
    now = (make, (chamber,), NOUGHTS)
    cuts = []
    for when, act in rows:
        for test in when:
            cuts.extend(cuts_of(test, chamber, now[1][0]))
            if not holds_at(now[1][0], test):
                break
        else:
            now = works_behind(now, deed_of(act, 0))
    return now[1:], cuts


def chamber_of(box):
    """The least CHAMBER of a box, of one brick if it has a load.

    What a SET has stood, how many bricks there are and tops part no RULES that are alike for this one: no TEST looks at
    them, what is drawn or cleared is told by the LEDGER, and a top that is made new is the heat at the end of step 2.
    """
    load, heat, pieces, wicket, damper, screen = [least for least, _ in box]
    loads = (None, ((0, 1, 0),), 1)
    return loads[load], heat, 0, (1,) * pieces, wicket == 1, damper == 1, screen == 1


def halves_of(box, cuts):
    """The two boxes, the lesser one last, that the first of the cuts in a box parts it in; None if there is none."""
    for place, cut in cuts:
        least, bound = box[place]
        if least < cut < bound:
            return [replaced(box, place, (cut, bound)), replaced(box, place, (least, cut))]
    return None


def greatest_in(rows, words):
    """The greatest number in TESTS with these words, of rows of bare_rules; 0 without one."""
    return max([0] + [test[1] for when, _ in rows for test in when if test[0] in words])


def leaves_of(make, heats, one, other):
    """The list of the triples (CHAMBER, what one, what other does to it) that stand for all CHAMBERS of these heats.

    heats is a pair, its second None for all from the first on; one and other are rows of bare_rules.
    """
    bound = heats[1] if heats[1] is not None else 1 + max(heats[0], greatest_in(one + other, ("below", "from")))
    pieces = greatest_in(one + other, ("pieces",))
    # The last one is taken first.
    boxes = [((load, load + 1), (heats[0], bound), (0, pieces + 1), (0, 2), (0, 2), (0, 2)) for load in (2, 1, 0)]
    leaves = []
    while boxes != []:
        box = boxes.pop()
        chamber = chamber_of(box)
        behind, cuts = walked(make, chamber, one)
        other_behind, more_cuts = walked(make, chamber, other)
        halves = halves_of(box, cuts + more_cuts)
        if halves is None:
            leaves.append((chamber, behind, other_behind))
        else:
            boxes.extend(halves)
    return leaves


def heats_at(make, places):
    """The range of the heats that a CHAMBER can have at places: the front, ahead of one, or any."""
    if 0 in places:
        return make[KINDLING], None
    return 0, make[KINDLING] if 1 in places else None


def parting_chamber(make, size, places, one, other):
    """A CHAMBER at these places to which, or from it to the LEDGER, RULES do unlike things; None without one."""
    rows = bare_rules(make, one, size, places)
    other_rows = bare_rules(make, other, size, places)
    if rows == other_rows:
        return None
    for chamber, behind, other_behind in leaves_of(make, heats_at(make, places), rows, other_rows):
        if behind != other_behind:
            return chamber
    return None


def place_sets(size, rules):
    """The sets of places that RULES name at which one CHAMBER can lie, the least first."""
    named = [place for place in range(size) if place in [rule[0] % size for rule in rules]]
    found = []
    for numbers in number_sets(len(named)):
        places = [named[number] for number in numbers]
        # Of two neighbours round the ring both are no fronts.
        if not any([(place + 1) % size in places for place in places]):
            found.append(tuple(places))
    return found


def first_parting(make, size, one, other):
    """The pair (least set of places, CHAMBER there) that parts RULES, all of them tuples; None if they are alike."""
    for places in place_sets(size, one + other):
        chamber = parting_chamber(make, size, places, one, other)
        if chamber is not None:
            return places, chamber
    return None


def alike_rules(make, size, one, other):
    """Whether two RULES are alike for a MAKE and a size."""
    return first_parting(tupled(make), size, tupled(one), tupled(other)) is None


def alike_sizes(make, one, other):
    """The set of the sizes, from 3 to 12, for which two RULES are alike."""
    sizes = list(range(LEAST_SIZE, MOST_CHAMBERS + 1))
    return tuple([size for size in sizes if alike_rules(make, size, one, other)])


def hot_around(make, size, places, chamber):
    """The numbers of the CHAMBERS to be hot where CHAMBER 0, this one, lies at just these places."""
    fronts = [-place % size for place in places]
    hot = list(fronts)
    if chamber[HEAT] >= make[KINDLING]:
        hot.extend(list(range(min(fronts))))
    return hot


def calm_chamber(make, size, places, is_hot, one, other):
    """A CHAMBER, hot or not, at these places to which RULES do the same, if there is one."""
    heats = (make[KINDLING], None) if is_hot else (0, make[KINDLING])
    rows = bare_rules(make, one, size, places)
    leaves = leaves_of(make, heats, rows, bare_rules(make, other, size, places))
    calm = [chamber for chamber, behind, other_behind in leaves if behind == other_behind]
    return calm[0] if calm != [] else leaves[0][0]


def parting_works(make, size, one, other):
    """A PARTING."""
    own = tupled(make)
    rules = tupled(one)
    other_rules = tupled(other)
    found = first_parting(own, size, rules, other_rules)
    if found is None:
        raise NoPaper()
    places, chamber = found
    hot = hot_around(own, size, places, chamber)
    chambers = [chamber]
    for number in range(1, size):
        # What is unlike in CHAMBER 0 is not to be made up for in the LEDGER by another one.
        own_places = [(number + place) % size for place in places]
        chambers.append(calm_chamber(own, size, own_places, number in hot, rules, other_rules))
    return own, tuple(chambers), NOUGHTS


def is_parting_works(make, size, one, other, thing):
    """Whether thing is a PARTING."""
    if not is_works(thing) or not same(thing[0], tupled(make)) or len(thing[1]) != size or thing[2] != NOUGHTS:
        return False
    return ruled(thing, one) != ruled(thing, other)


def parting_places(make, size, one, other):
    """The least set of places at which a CHAMBER lies in some PARTING to which unlike things are done."""
    found = first_parting(tupled(make), size, tupled(one), tupled(other))
    if found is None:
        raise NoPaper()
    return found[0]


def places_round(rules, size):
    """The RULES, each place round by size."""
    return tuple([(place % size, when, act) for place, when, act in tupled(rules)])


def needed_rules(make, size, rules):
    """The least set of numbers of RULES that alone are alike with all."""
    # The last of the sets has all numbers, so that one is found.
    for numbers in number_sets(len(rules)):
        if alike_rules(make, size, [rules[number] for number in numbers], rules):
            return numbers
    return None


def order_free(make, size, rules):
    """Whether RULES in each order are alike."""
    orders = [()]
    for _ in rules:
        orders = [order + (number,) for order in orders for number in range(len(rules)) if number not in order]
    return all([alike_rules(make, size, [rules[number] for number in order], rules) for order in orders])


def swaps_free(make, size, rules):
    """The set of the numbers of RULES that may change places with the next one."""
    own = tupled(rules)
    found = []
    for number in range(len(own) - 1):
        changed = own[:number] + (own[number + 1], own[number]) + own[number + 2:]
        if alike_rules(make, size, changed, own):
            found.append(number)
    return tuple(found)


def first_unlike_tick(works, one, other):
    """The first tick behind which the runs by two RULES are unlike, None without one."""
    now = tupled(works)
    rules = tupled(one)
    other_rules = tupled(other)
    ticks = {}
    tick = 0
    last = None
    while last is None or tick < last:
        seen = seen_in(now, 0)
        # Tops are not seen: a round is gone through once more, behind it they are what they were a round ahead.
        if last is None and seen in ticks:
            last = tick + tick - ticks[seen]
        ticks[seen] = tick
        if len(ticks) > MOST_SEEN:
            raise TooMany()
        tick += 1
        behind = tick_by(now, rules)
        if behind != tick_by(now, other_rules):
            return tick
        now = behind
    return None


def alike_from(works, one, other):
    """Whether the runs by two RULES are never unlike."""
    return first_unlike_tick(works, one, other) is None
