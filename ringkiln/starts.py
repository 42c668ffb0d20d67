"""Cold starts: how much wood, put in where and when, makes a FIRE that holds."""

from ringkiln.chambers import need_chamber
from ringkiln.deeds import works_behind
from ringkiln.errors import NoPaper, TooMany
from ringkiln.repairs import catch_tick
from ringkiln.runs import hot_chambers, tick_by
from ringkiln.shapes import is_from, is_row, same, tupled

MOST_ROWS = 4000


def start_tick(works, rules, number, heat):
    """The WORKS behind a tick for which so much wood, maybe none, is told."""
    laid = works_behind(works, ("wood", number, heat)) if heat > 0 else works
    return tick_by(laid, rules)


def fail_tick(works, rules, start, many):
    """The tick at which a START fails, None if it holds; all of them tuples."""
    number, rows = start
    now = works
    for before in range(many):
        now = start_tick(now, rules, number, rows[before] if before < len(rows) else 0)
        # Without more wood what is out stays out.
        if before + 1 >= len(rows) and hot_chambers(now) == ():
            return before + 1
    return None


def start_run(works, rules, start, many):
    """The list of the WORKS behind 0, 1, .., many ticks of the run of a START."""
    number, heats = tupled(start)
    need_chamber(works[1], number)
    own_rules = tupled(rules)
    rows = [tupled(works)]
    for before in range(many):
        rows.append(start_tick(rows[-1], own_rules, number, heats[before] if before < len(heats) else 0))
    return rows


def fails_at(works, rules, start, many):
    """The tick at which a START fails, None if it holds."""
    own = tupled(start)
    need_chamber(works[1], own[0])
    return fail_tick(tupled(works), tupled(rules), own, many)


def is_start(works, rules, many, thing):
    """Whether thing is a START that holds."""
    if not is_row(thing, 2) or not is_from(thing[0], 0) or thing[0] >= len(works[1]):
        return False
    if not isinstance(thing[1], tuple) or len(thing[1]) > many:
        return False
    return all([is_from(heat, 0) for heat in thing[1]]) and fails_at(works, rules, thing, many) is None


def catches_at(works, rules, start, many):
    """The set of the pairs (CHAMBER, first tick at which it catches) in the run of a START."""
    rows = start_run(works, rules, start, many)
    ticks = [catch_tick(rows, number, 1) for number in range(len(works[1]))]
    return tuple([(number, tick) for number, tick in enumerate(ticks) if tick is not None])


def first_round(works, rules, start, many):
    """The first tick by whose end each CHAMBER has lain in a FIRE behind some tick; None without one."""
    passed = {}
    for tick, row in enumerate(start_run(works, rules, start, many)[1:]):
        for number in hot_chambers(row):
            passed[number] = True
        if len(passed) == len(row[1]):
            return tick + 1
    return None


def wood_fails(works, rules, number, many, most):
    """The list of the ticks at which (number, (wood,)) fails, by wood to most, ending with None if one holds."""
    own = tupled(works)
    need_chamber(own[1], number)
    own_rules = tupled(rules)
    ticks = []
    for wood in range(most + 1):
        ticks.append(fail_tick(own, own_rules, (number, (wood,)), many))
        if ticks[-1] is None:
            return ticks
    return ticks


def least_wood(works, rules, number, many, most):
    """The least wood, to most, that holds, put in at tick 1."""
    ticks = wood_fails(works, rules, number, many, most)
    if ticks[-1] is not None:
        raise NoPaper()
    return len(ticks) - 1


def start_paper(works, rules, number, many, most):
    """The COLD LIST."""
    ticks = wood_fails(works, rules, number, many, most)
    if ticks[-1] is None:
        raise NoPaper()
    return tuple(ticks)


def is_start_paper(works, rules, number, many, most, thing):
    """Whether thing is the COLD LIST."""
    ticks = wood_fails(works, rules, number, many, most)
    return ticks[-1] is not None and same(tuple(ticks), thing)


def start_at(works, rules, many, most):
    """The least pair (wood, number) that holds, put in at tick 1."""
    own = tupled(works)
    own_rules = tupled(rules)
    for wood in range(most + 1):
        for number in range(len(own[1])):
            if fail_tick(own, own_rules, (number, (wood,)), many) is None:
                return wood, number
    raise NoPaper()


def need_few(most, long):
    """Raise TooMany if there are more than 4,000 tuples of long numbers to most."""
    ways = 1
    for _ in range(long):
        ways *= most + 1
        if ways > MOST_ROWS:
            raise TooMany()


def rows_of_sum(long, most, total):
    """All tuples of long numbers to most that come to total together, ascending."""
    if long == 0:
        return [()] if total == 0 else []
    rows = []
    for head in range(max(0, total - (long - 1) * most), min(most, total) + 1):
        rows.extend([(head,) + rest for rest in rows_of_sum(long - 1, most, total - head)])
    return rows


def start_rows(works, rules, number, many, long, most):
    """The set of the tuples of long numbers to most that hold as rows, with the least sum of all."""
    own = tupled(works)
    need_chamber(own[1], number)
    need_few(most, long)
    own_rules = tupled(rules)
    for total in range(long * most + 1):
        rows = rows_of_sum(long, most, total)
        found = [row for row in rows if fail_tick(own, own_rules, (number, row), many) is None]
        if found != []:
            return tuple(found)
    return ()


def wood_saved(works, rules, number, many, long, most):
    """How much less wood rows of long numbers want than one at tick 1; None if no such one holds."""
    rows = start_rows(works, rules, number, many, long, most)
    ticks = wood_fails(works, rules, number, many, most)
    if ticks[-1] is not None:
        return None
    return len(ticks) - 1 - sum(rows[0])
