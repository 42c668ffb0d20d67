"""Repairs: when a CHAMBER can be out of use, what it costs, and how far the FIRE jumps over it."""

from ringkiln.chambers import need_chamber
from ringkiln.draughts import ring_row
from ringkiln.errors import NoPaper, NoTick, Unfit
from ringkiln.rules import rows_by
from ringkiln.runs import hot_chambers, rules_used
from ringkiln.shapes import COOL, GOOD, HEAT, KINDLING, LOAD, is_from, number_sets, same, tupled
from ringkiln.ticks import ticked


def rested_tick(works, rules, numbers):
    """The WORKS behind a tick in which the CHAMBERS of numbers are out of use."""
    return ticked(rules_used(works, rules, lambda deed: deed[1] in numbers)[0], False)


def rested_rows(works, rules, numbers, many):
    """The list of the WORKS behind 0, 1, .., many ticks, the CHAMBERS of numbers out of use in all of them."""
    rows = [works]
    for _ in range(many):
        rows.append(rested_tick(rows[-1], rules, numbers))
    return rows


def repaired_rows(plain, rules, repair):
    """The list of the WORKS behind each tick of the run with a REPAIR, plain being that without it."""
    number, first, long = repair
    # Ahead of its first tick nothing is changed.
    rows = plain[:first]
    for tick in range(first, len(plain)):
        numbers = (number,) if tick < first + long else ()
        rows.append(rested_tick(rows[-1], rules, numbers))
    return rows


def entered_at(rows, repair):
    """The least tick of a REPAIR ahead of which its CHAMBER is not empty and cool, None if it always is."""
    number, first, long = repair
    for tick in range(first, first + long):
        make, chambers, _ = rows[tick - 1]
        if chambers[number][LOAD] is not None or chambers[number][HEAT] >= make[COOL]:
            return tick
    return None


def out_with(plain, rows):
    """The least tick behind which rows are out, and plain is not; None without one."""
    for tick in range(1, len(rows)):
        if hot_chambers(rows[tick]) == () and hot_chambers(plain[tick]) != ():
            return tick
    return None


def good_lost(plain, rows):
    """How many good bricks fewer there are behind rows than behind plain, maybe below 0."""
    return plain[-1][2][GOOD] - rows[-1][2][GOOD]


def cost_of(plain, rows, repair):
    """The cost of a REPAIR, rows being the run with it, plain the one without it."""
    tick = entered_at(rows, repair)
    if tick is not None:
        return "entered", tick
    tick = out_with(plain, rows)
    if tick is not None:
        return "out", tick
    lost = good_lost(plain, rows)
    return ("lost", lost) if lost > 0 else None


def need_repair(works, repair, many):
    """Raise NoChamber or NoTick if a REPAIR is none of a run of many ticks."""
    number, first, long = repair
    need_chamber(works[1], number)
    if first < 1 or first + long - 1 > many:
        raise NoTick(first)


def plain_and_repaired(works, rules, repair, many):
    """The pair of lists of the WORKS behind each tick without a REPAIR, and with it."""
    need_repair(works, repair, many)
    plain = rows_by(works, rules, many)
    return plain, repaired_rows(plain, tupled(rules), repair)


def all_repaired(works, rules, number, long, many):
    """The list of the triples (first, WORKS without, WORKS with it) of all REPAIRS of number and long, by first."""
    need_chamber(works[1], number)
    plain = rows_by(works, rules, many)
    own_rules = tupled(rules)
    firsts = list(range(1, many - long + 2))
    return [(first, plain, repaired_rows(plain, own_rules, (number, first, long))) for first in firsts]


def costs(works, rules, number, long, many):
    """The list of the costs of all REPAIRS of number and long, by first."""
    rows = all_repaired(works, rules, number, long, many)
    return [cost_of(plain, repaired, (number, first, long)) for first, plain, repaired in rows]


def out_from(works, rules, number, long, many):
    """The set of all first ticks of REPAIRS that can be done."""
    rows = all_repaired(works, rules, number, long, many)
    return tuple([first for first, _, repaired in rows if entered_at(repaired, (number, first, long)) is None])


def loses_by(works, rules, repair, many):
    """The cost of a REPAIR."""
    plain, rows = plain_and_repaired(works, rules, repair, many)
    return cost_of(plain, rows, repair)


def repaired_run(works, rules, repair, many):
    """The WORKS behind each tick of the run with a REPAIR that can be done."""
    rows = plain_and_repaired(works, rules, repair, many)[1]
    if entered_at(rows, repair) is not None:
        raise Unfit()
    return rows[1:]


def repair_at(works, rules, number, long, many):
    """The least first tick of a REPAIR that costs nothing."""
    found = costs(works, rules, number, long, many)
    if None not in found:
        raise NoPaper()
    return found.index(None) + 1


def no_repair(works, rules, number, long, many):
    """The REFUSAL."""
    found = costs(works, rules, number, long, many)
    if None in found:
        raise NoPaper()
    return tuple(found)


def is_repair(works, rules, number, long, many, thing):
    """Whether thing is a first tick of a REPAIR that costs nothing."""
    need_chamber(works[1], number)
    if not is_from(thing, 1) or thing > many - long + 1:
        return False
    return loses_by(works, rules, (number, thing, long), many) is None


def is_no_repair(works, rules, number, long, many, thing):
    """Whether thing is the REFUSAL."""
    found = costs(works, rules, number, long, many)
    return None not in found and same(tuple(found), thing)


def least_loss(works, rules, number, long, many):
    """Of the REPAIRS that are neither entered nor out the least pair (good bricks fewer, first); None without one."""
    found = []
    for first, plain, rows in all_repaired(works, rules, number, long, many):
        if entered_at(rows, (number, first, long)) is None and out_with(plain, rows) is None:
            found.append((good_lost(plain, rows), first))
    return min(found) if found != [] else None


def catch_tick(rows, number, first):
    """The first tick, from first on, at which a CHAMBER catches; None without one."""
    kindling = rows[0][0][KINDLING]
    for tick in range(first, len(rows)):
        if rows[tick - 1][1][number][HEAT] < kindling <= rows[tick][1][number][HEAT]:
            return tick
    return None


def past_at(works, rules, repair, many):
    """The first tick of a REPAIR or behind it at which the CHAMBER ahead of it catches; None without one."""
    rows = plain_and_repaired(works, rules, repair, many)[1]
    number, first, _ = repair
    return catch_tick(rows, (number + 1) % len(works[1]), first)


def jump_room(works, rules, number, many):
    """The set of the numbers of CHAMBERS from number on over which, out of use, the FIRE comes."""
    own = tupled(works)
    need_chamber(own[1], number)
    own_rules = tupled(rules)
    ring = len(own[1])
    found = []
    for long in range(1, ring - 1):
        rows = rested_rows(own, own_rules, ring_row(number, long, ring), many)
        if catch_tick(rows, (number + long) % ring, 1) is not None:
            found.append(long)
    return tuple(found)


def longest_jump(works, rules, many):
    """The pair (greatest jump, least number from which it goes); None if there is none."""
    rooms = [jump_room(works, rules, number, many) for number in range(len(works[1]))]
    longest = [max(room) if room != () else 0 for room in rooms]
    if max(longest) == 0:
        return None
    return max(longest), longest.index(max(longest))


def put_out(works, rules, many):
    """The least set of CHAMBERS with which out of use the WORKS is out behind the run; None without one."""
    own = tupled(works)
    own_rules = tupled(rules)
    for numbers in number_sets(len(own[1])):
        if hot_chambers(rested_rows(own, own_rules, numbers, many)[-1]) == ():
            return numbers
    return None
