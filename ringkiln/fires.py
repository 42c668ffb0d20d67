"""FIRES: where they burn, how they go round, when and why they go out."""

from ringkiln.chambers import need_chamber
from ringkiln.draughts import draughts_in
from ringkiln.errors import NoPaper
from ringkiln.runs import fronts_in, hot_chambers, rows_of_run, told_ticks
from ringkiln.shapes import COAL, same, tupled


def fire_behind(works, front):
    """The FIRE of this front along the ring, the front last."""
    hot = hot_chambers(works)
    row = [front]
    while (row[-1] - 1) % len(works[1]) in hot:
        row.append((row[-1] - 1) % len(works[1]))
    return tuple(row[::-1])


def fires_of(works):
    """The FIRES of a WORKS by fronts ascending, one of all CHAMBERS from 0 on."""
    hot = hot_chambers(works)
    if len(hot) == len(works[1]):
        return [hot]
    return [fire_behind(works, front) for front in fronts_in(works)]


def fronts_of(works):
    """The set of the fronts of a WORKS."""
    return fronts_in(works)


def is_out(works):
    """Whether a WORKS has no FIRE."""
    return hot_chambers(works) == ()


def fire_at(works, number):
    """The FIRE in which a CHAMBER lies, or None."""
    need_chamber(works[1], number)
    for fire in fires_of(works):
        if number in fire:
            return fire
    return None


def hot_rows(works, rules, told, many):
    """The list of the sets of the CHAMBERS in FIRES behind ticks 0 to many."""
    return [hot_chambers(row) for row in rows_of_run(works, rules, told, (), many)]


def fire_rows(works, rules, told, many):
    """The sets of the CHAMBERS in FIRES behind ticks 0 to many."""
    return tuple(hot_rows(works, rules, told, many))


def is_fire_rows(works, rules, told, many, thing):
    """Whether thing is fire_rows of the run."""
    return same(tuple(hot_rows(works, rules, told, many)), thing)


def ticks_kindled(rows, number):
    """The ticks at which a CHAMBER comes into the sets of rows."""
    return tuple([tick for tick in range(1, len(rows)) if number in rows[tick] and number not in rows[tick - 1]])


def kindled_at(works, rules, told, many):
    """CHAMBER by CHAMBER the ticks at which it is kindled."""
    rows = hot_rows(works, rules, told, many)
    return tuple([ticks_kindled(rows, number) for number in range(len(works[1]))])


def comes_to(works, rules, told, many, number):
    """The least tick behind which a CHAMBER lies in a FIRE, or None."""
    need_chamber(works[1], number)
    for tick, hot in enumerate(hot_rows(works, rules, told, many)):
        if number in hot:
            return tick
    return None


def passes(works, rules, told, many, number):
    """The ticks behind which a CHAMBER is a front, and was not the tick before."""
    need_chamber(works[1], number)
    rows = [fronts_in(row) for row in rows_of_run(works, rules, told, (), many)]
    return ticks_kindled(rows, number)


def jumps(works, rules, told, many):
    """The pairs (tick, number) of CHAMBERS kindled with no FIRE at the one before them."""
    rows = hot_rows(works, rules, told, many)
    found = []
    for number in range(len(works[1])):
        before = (number - 1) % len(works[1])
        for tick in ticks_kindled(rows, number):
            if before not in rows[tick] and before not in rows[tick - 1]:
                found.append((tick, number))
    return sorted(found)


def goes_out(works, rules, told, many):
    """The least tick behind which a run is out, or None."""
    for tick, hot in enumerate(hot_rows(works, rules, told, many)):
        if hot == ():
            return tick
    return None


def cause_in(works):
    """Why a WORKS behind step 2 of the tick at which it goes out does so."""
    draughts = draughts_in(works[1])
    aired = [number for number in hot_chambers(works) if any([number in row for row in draughts])]
    if aired == []:
        return "air"
    if not any([works[1][number][COAL] != () for number in aired]):
        return "coal"
    return "heat"


def cause_of(works, rules, told, many):
    """The pair (tick, cause) of the least tick at which a run goes out."""
    own = tupled(works)
    was_out = is_out(own)
    found = None
    for before, row in enumerate(told_ticks(own, tupled(rules), tupled(told), (), many)):
        now_out = is_out(row[3])
        if now_out and not was_out and found is None:
            found = before + 1, cause_in(row[2])
        was_out = now_out
    if found is None:
        raise NoPaper()
    return found
