"""DRAUGHTS: where air goes, why it does not, and what would let it."""

from ringkiln.chambers import need_chamber
from ringkiln.errors import NoPaper
from ringkiln.kinds import is_slag
from ringkiln.shapes import DAMPER, LOAD, PARTS, SCREEN, WICKET
from ringkiln.shapes import is_from, is_row, replaced, same, tupled


def ring_row(number, long, many):
    """So many numbers along a ring of many, from number on."""
    return tuple([(number + steps) % many for steps in range(long)])


def row_from(chambers, number):
    """The pair (the DRAUGHT that begins there, what stops it), one of both None."""
    many = len(chambers)
    if not chambers[number][WICKET]:
        return None, ("wicket", number)
    for steps, place in enumerate(ring_row(number, many, many)):
        chamber = chambers[place]
        if steps > 0 and chamber[WICKET]:
            return None, ("wicket", place)
        if is_slag(chamber[LOAD]):
            return None, ("slag", place)
        if chamber[DAMPER]:
            return ring_row(number, steps + 1, many), None
        if chamber[SCREEN]:
            return None, ("screen", place)
    return None, ("round", number)


def draughts_in(chambers):
    """All DRAUGHTS, by their first CHAMBERS."""
    rows = [row_from(chambers, number)[0] for number in range(len(chambers))]
    return tuple([row for row in rows if row is not None])


def draught_over(chambers, number):
    """The DRAUGHT in which the CHAMBER of number lies, or None."""
    for row in draughts_in(chambers):
        if number in row:
            return row
    return None


def draught_from(works, number):
    """The DRAUGHT that begins at the CHAMBER of number, or None."""
    chambers = tupled(works)[1]
    need_chamber(chambers, number)
    return row_from(chambers, number)[0]


def all_draughts(works):
    """The set of all DRAUGHTS."""
    return draughts_in(tupled(works)[1])


def stopped_by(works, number):
    """Why no DRAUGHT begins at the CHAMBER of number, None if one does."""
    chambers = tupled(works)[1]
    need_chamber(chambers, number)
    return row_from(chambers, number)[1]


def in_draught(works, number):
    """The DRAUGHT in which the CHAMBER of number lies, or None."""
    chambers = tupled(works)[1]
    need_chamber(chambers, number)
    return draught_over(chambers, number)


def quiet(works):
    """The set of the CHAMBERS that lie in no DRAUGHT."""
    chambers = tupled(works)[1]
    rows = draughts_in(chambers)
    return tuple([number for number in range(len(chambers)) if not any([number in row for row in rows])])


def is_draught(works, thing):
    """Whether thing is a DRAUGHT of works."""
    return any([same(row, thing) for row in all_draughts(works)])


def why_quiet(works, number):
    """What keeps the CHAMBER of number out of every DRAUGHT, None if nothing does."""
    chambers = tupled(works)[1]
    need_chamber(chambers, number)
    if draught_over(chambers, number) is not None:
        return None
    place = number
    while True:
        if is_slag(chambers[place][LOAD]):
            return "slag", place
        if chambers[place][WICKET]:
            return row_from(chambers, place)[1]
        place = (place - 1) % len(chambers)
        if place == number:
            return "round", number
        if chambers[place][DAMPER]:
            return "damper", place
        if chambers[place][SCREEN]:
            return "screen", place


def with_changes(chambers, changes):
    """The CHAMBERS with these CHANGES, each of one of them, made."""
    made = chambers
    for part, number in changes:
        place = PARTS.index(part)
        made = replaced(made, number, replaced(made[number], place, not made[number][place]))
    return made


def changed(works, changes):
    """The WORKS with these CHANGES made."""
    make, chambers, ledger = tupled(works)
    for _, number in changes:
        need_chamber(chambers, number)
    return make, with_changes(chambers, changes), ledger


def changes_for(chambers, row):
    """The CHANGES that a row of CHAMBERS without SLAG wants to be a DRAUGHT."""
    changes = []
    for number in row:
        chamber = chambers[number]
        is_last = number == row[-1]
        if chamber[WICKET] != (number == row[0]):
            changes.append(("wicket", number))
        if chamber[DAMPER] != is_last:
            changes.append(("damper", number))
        if chamber[SCREEN] and not is_last:
            changes.append(("screen", number))
    return tuple(sorted(changes))


def clear_rows_over(chambers, number):
    """All rows along the ring with the CHAMBER of number in them and without SLAG."""
    many = len(chambers)
    rows = [ring_row(first, long, many) for first in range(many) for long in range(1, many + 1)]
    slags = [place for place in range(many) if is_slag(chambers[place][LOAD])]
    return [row for row in rows if number in row and not any([place in row for place in slags])]


def openings_for(works, number):
    """The least CHANGES with which the CHAMBER of number is not quiet."""
    chambers = tupled(works)[1]
    need_chamber(chambers, number)
    if is_slag(chambers[number][LOAD]):
        raise NoPaper()
    # CHANGES elsewhere do nothing to a row, so each row has just one least way.
    ways = [changes_for(chambers, row) for row in clear_rows_over(chambers, number)]
    return min([(len(changes), changes) for changes in ways])[1]


def are_changes(thing, many):
    """Whether thing is CHANGES of a ring of many."""
    if not isinstance(thing, tuple):
        return False
    for change in thing:
        if not is_row(change, 2) or not is_from(change[1], 0) or change[1] >= many:
            return False
        if change[0] not in ("damper", "screen", "wicket"):
            return False
    return all([one < other for one, other in zip(thing, thing[1:])])


def is_openings(works, number, thing):
    """Whether thing is CHANGES with which the CHAMBER of number is not quiet."""
    chambers = tupled(works)[1]
    need_chamber(chambers, number)
    if not are_changes(thing, len(chambers)):
        return False
    return draught_over(with_changes(chambers, thing), number) is not None


def draughts_with(chambers, change):
    """The DRAUGHTS as it stands, and those with one CHANGE made."""
    need_chamber(chambers, change[1])
    return draughts_in(chambers), draughts_in(with_changes(chambers, (change,)))


def lost_by(works, change):
    """The set of the DRAUGHTS that a CHANGE takes away."""
    before, behind = draughts_with(tupled(works)[1], change)
    return tuple([row for row in before if row not in behind])


def won_by(works, change):
    """The set of the DRAUGHTS that a CHANGE brings."""
    before, behind = draughts_with(tupled(works)[1], change)
    return tuple([row for row in behind if row not in before])
