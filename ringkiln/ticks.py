"""A bare tick: draughts, air, burning, earth, marks and the ledger."""

from ringkiln.chambers import need_chamber
from ringkiln.draughts import draughts_in
from ringkiln.errors import TooMany
from ringkiln.kinds import is_set, is_slag, load_marked
from ringkiln.shapes import BURNS, BURNT, COAL, EARTH, EARTHED, FLUE, HEAT, KINDLING, LOAD, SCREEN, TICKS
from ringkiln.shapes import grown, replaced, same, tupled

MOST_HEATS = 12


def air_through(heats):
    """The pair (heats of a DRAUGHT behind step 4, what goes to flue)."""
    air = 0
    behind = []
    for heat in heats:
        together = heat + air
        behind.append((together + 1) // 2)
        air = together // 2
    return tuple(behind), air


def heats_before(heats, flue):
    """All tuples of heats that air_through leads to (heats, flue), ascending."""
    if len(heats) > MOST_HEATS:
        raise TooMany()
    ways = [((), 0)]
    for heat in heats:
        longer = []
        for begun, air in ways:
            # The two sums whose greater half is heat; of heat 0 the first is none, and less than any air.
            for together in (2 * heat - 1, 2 * heat):
                if together >= air:
                    longer.append((begun + (together - air,), together // 2))
        ways = longer
    return sorted([begun for begun, air in ways if air == flue])


def with_heats(chambers, heats):
    """The CHAMBERS with these heats, all else as it is."""
    return tuple([replaced(chamber, HEAT, heat) for chamber, heat in zip(chambers, heats)])


def air_step(works, draughts):
    """Step 4: air goes through these DRAUGHTS."""
    make, chambers, ledger = works
    heats = [chamber[HEAT] for chamber in chambers]
    flue = 0
    for row in draughts:
        behind, rest = air_through([heats[number] for number in row])
        for number, heat in zip(row, behind):
            heats[number] = heat
        flue += rest
    return make, with_heats(chambers, heats), grown(ledger, FLUE, flue)


def does_burn(make, chamber):
    """Whether a CHAMBER of a DRAUGHT burns coal at step 5."""
    return chamber[HEAT] >= make[KINDLING] and chamber[COAL] != ()


def burn_step(works, draughts):
    """Step 5: coal is burnt in these DRAUGHTS."""
    make, chambers, ledger = works
    behind = list(chambers)
    burnt = 0
    for row in draughts:
        for number in row:
            chamber = chambers[number]
            if does_burn(make, chamber):
                strength = chamber[COAL][0]
                behind[number] = replaced(grown(chamber, HEAT, strength), COAL, chamber[COAL][1:])
                burnt += strength
    return make, tuple(behind), grown(ledger, BURNT, burnt)


def earth_step(works):
    """Step 6: the earth takes its share."""
    make, chambers, ledger = works
    if make[EARTH] == 0:
        return works
    shares = [chamber[HEAT] // make[EARTH] for chamber in chambers]
    heats = [chamber[HEAT] - share for chamber, share in zip(chambers, shares)]
    return make, with_heats(chambers, heats), grown(ledger, EARTHED, sum(shares))


def marked(make, chamber):
    """The CHAMBER behind step 7."""
    load, heat, top, coal, wicket, damper, screen = chamber
    if load is not None:
        top = max(top, heat)
    return load_marked(make, load, heat), heat, top, coal, wicket, damper, screen and heat < make[BURNS]


def mark_step(works):
    """Step 7: marks, melting, tops, screens."""
    make, chambers, ledger = works
    return make, tuple([marked(make, chamber) for chamber in chambers]), ledger


def tick_step(works):
    """Step 8: the ledger counts the tick."""
    make, chambers, ledger = works
    return make, chambers, grown(ledger, TICKS, 1)


def parts_with(works, draughts):
    """The five WORKS behind steps 4 to 8 with these DRAUGHTS."""
    aired = air_step(works, draughts)
    burnt = burn_step(aired, draughts)
    earthed = earth_step(burnt)
    behind = mark_step(earthed)
    return aired, burnt, earthed, behind, tick_step(behind)


def ticked(works, is_still):
    """The WORKS, a tuple, behind a bare tick, still or not."""
    draughts = () if is_still else draughts_in(works[1])
    return parts_with(works, draughts)[-1]


def marks_done(works):
    """The WORKS behind step 7 alone."""
    return mark_step(tupled(works))


def bare_tick(works):
    """The WORKS behind a bare tick."""
    return ticked(tupled(works), False)


def still_tick(works):
    """The WORKS behind a still bare tick."""
    return ticked(tupled(works), True)


def tick_parts(works):
    """The five WORKS behind steps 4, 5, 6, 7, 8 of a bare tick."""
    own = tupled(works)
    return parts_with(own, draughts_in(own[1]))


def is_bare_tick(works, thing):
    """Whether thing is the WORKS behind a bare tick, still or not."""
    return same(bare_tick(works), thing) or same(still_tick(works), thing)


def burners(works):
    """The set of the CHAMBERS that burn coal at a bare tick."""
    own = tupled(works)
    draughts = draughts_in(own[1])
    make, chambers, _ = air_step(own, draughts)
    return tuple(sorted([number for row in draughts for number in row if does_burn(make, chambers[number])]))


def around_tick(works):
    """A list of triples: each CHAMBER's number, the CHAMBER ahead of and behind a bare tick."""
    own = tupled(works)
    behind = ticked(own, False)
    return [(number, old, behind[1][number]) for number, old in enumerate(own[1])]


def kindled(works):
    """The set of the CHAMBERS that come to kindling by a bare tick."""
    bound = works[0][KINDLING]
    return tuple([number for number, old, new in around_tick(works) if old[HEAT] < bound <= new[HEAT]])


def fallen(works):
    """The set of the CHAMBERS that fall below kindling by a bare tick."""
    bound = works[0][KINDLING]
    return tuple([number for number, old, new in around_tick(works) if new[HEAT] < bound <= old[HEAT]])


def heat_shares(works, number):
    """Of a CHAMBER at a bare tick (more by air, more by burning, less by the earth)."""
    own = tupled(works)
    need_chamber(own[1], number)
    parts = parts_with(own, draughts_in(own[1]))
    heat, aired, burnt, earthed = [part[1][number][HEAT] for part in (own,) + parts[:3]]
    return aired - heat, burnt - aired, burnt - earthed


def torn_next(works):
    """The set of the CHAMBERS whose screen a bare tick tears."""
    return tuple([number for number, old, new in around_tick(works) if old[SCREEN] and not new[SCREEN]])


def slag_next(works):
    """The set of the CHAMBERS whose SET a bare tick makes SLAG."""
    return tuple([number for number, old, new in around_tick(works) if is_set(old[LOAD]) and is_slag(new[LOAD])])
