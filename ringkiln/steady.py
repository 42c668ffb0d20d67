"""Rounds of fires: what is seen comes again, turned, or the WORKS goes out."""

from ringkiln.chambers import need_chamber, seen_in
from ringkiln.errors import NoPaper, TooMany
from ringkiln.fires import fires_of
from ringkiln.kinds import is_set
from ringkiln.runs import fronts_in, hot_chambers, tick_by
from ringkiln.shapes import HEAT, LOAD, is_from, is_row, replaced, tupled

MOST_TICKS = 4000
MOST_CHAMBERS = 12
MOST_HEAT = 60


def seen_key(works, codes, is_turned):
    """What is seen, a number for each CHAMBER; if it may be turned, the least of all its turnings."""
    seen = tuple([codes.setdefault(chamber, len(codes)) for chamber in seen_in(works, 0)])
    if not is_turned:
        return seen
    return min([seen[by:] + seen[:by] for by in range(len(seen))])


def followed(works, rules, least, is_turned):
    """The pair (list of the WORKS behind each tick, tick behind which the last one was seen before).

    It ends, with None for that tick, as soon as there are fewer FIRES than least.
    """
    rows = [works]
    codes = {}
    ticks = {}
    while len(fires_of(rows[-1])) >= least:
        key = seen_key(rows[-1], codes, is_turned)
        if key in ticks:
            return rows, ticks[key]
        if len(rows) > MOST_TICKS:
            raise TooMany()
        ticks[key] = len(rows) - 1
        rows.append(tick_by(rows[-1], rules))
    return rows, None


def settled(works, rules):
    """The run, followed till it goes out or is seen again, turned."""
    return followed(tupled(works), tupled(rules), 1, True)


def turning_of(works, other):
    """The least CHAMBER of works from which what is in other seen from CHAMBER 0 is seen, or None."""
    seen = seen_in(works, 0)
    wanted = seen_in(other, 0)
    for by in range(len(seen)):
        if seen[by:] + seen[:by] == wanted:
            return by
    return None


def paper_of(rows, start):
    """The first STEADY PAPER of a run that is seen again."""
    return start, len(rows) - 1 - start, turning_of(rows[-1], rows[start])


def is_steady(works, rules):
    """Whether there is a STEADY PAPER."""
    return settled(works, rules)[1] is not None


def steady_paper(works, rules):
    """The first STEADY PAPER."""
    rows, start = settled(works, rules)
    if start is None:
        raise NoPaper()
    return paper_of(rows, start)


def is_paper_shape(thing, many):
    """Whether thing is a triple that may be a STEADY PAPER of a ring of many, within 4,000 ticks."""
    if not is_row(thing, 3) or not is_from(thing[0], 0) or not is_from(thing[1], 1) or not is_from(thing[2], 0):
        return False
    return thing[0] + thing[1] <= MOST_TICKS and thing[2] < many


def is_round_with(works, rules, least, thing):
    """Whether thing is a STEADY PAPER such that there are at no tick of it fewer FIRES than least."""
    now = tupled(works)
    own_rules = tupled(rules)
    if not is_paper_shape(thing, len(now[1])):
        return False
    tick, long, turning = thing
    begun = None
    for passed in range(tick + long + 1):
        if len(fires_of(now)) < least:
            return False
        if passed == tick:
            begun = seen_in(now, 0)
        if passed < tick + long:
            now = tick_by(now, own_rules)
    return seen_in(now, turning) == begun


def is_steady_paper(works, rules, thing):
    """Whether thing is a STEADY PAPER."""
    # What is out stays out: where some FIRE is at last there was one at each tick.
    return is_round_with(works, rules, 1, thing)


def out_paper(works, rules):
    """The least OUT PAPER."""
    rows, start = settled(works, rules)
    if start is not None:
        raise NoPaper()
    return len(rows) - 1


def works_behind_ticks(works, rules, many):
    """The WORKS, a tuple, behind so many ticks by rules alone."""
    now = works
    for _ in range(many):
        now = tick_by(now, rules)
    return now


def is_out_paper(works, rules, thing):
    """Whether thing is an OUT PAPER."""
    if not is_from(thing, 0) or thing > MOST_TICKS:
        return False
    return hot_chambers(works_behind_ticks(tupled(works), tupled(rules), thing)) == ()


def load_grown(load, other, times):
    """The load with what its COURSES stand longer in other, the same one later, so many times more."""
    if not is_set(load):
        return load
    grown = []
    for (kind, count, stood), (_, _, later) in zip(load, other):
        grown.append((kind, count, stood + times * (later - stood)))
    return tuple(grown)


def works_grown(works, other, times):
    """The WORKS with what other, where the same is seen, has more of, so many times more."""
    make, chambers, ledger = works
    grown = []
    for chamber, later in zip(chambers, other[1]):
        grown.append(replaced(chamber, LOAD, load_grown(chamber[LOAD], later[LOAD], times)))
    return make, tuple(grown), tuple([own + times * (later - own) for own, later in zip(ledger, other[2])])


def far_works(works, rules, many):
    """The WORKS behind many ticks, however many."""
    own_rules = tupled(rules)
    rows, start = followed(tupled(works), own_rules, 0, False)
    last = len(rows) - 1
    if many <= last:
        return rows[many]
    # From last on each round is like the one ahead of it, also in tops, and in what stands longer.
    long = last - start
    one = works_behind_ticks(rows[last], own_rules, (many - last) % long)
    return works_grown(one, works_behind_ticks(one, own_rules, long), (many - last) // long)


def fronts_far(works, rules, many):
    """The set of the fronts behind many ticks, however many."""
    rows, start = followed(tupled(works), tupled(rules), 0, True)
    last = len(rows) - 1
    if many <= last:
        return fronts_in(rows[many])
    turning = turning_of(rows[last], rows[start])
    times = (many - start) // (last - start)
    fronts = fronts_in(rows[start + (many - start) % (last - start)])
    return tuple(sorted([(front + times * turning) % len(rows[0][1]) for front in fronts]))


def round_ledger(works, rules):
    """By how much each number of the LEDGER grows in the round of the first STEADY PAPER."""
    rows, start = settled(works, rules)
    if start is None:
        raise NoPaper()
    return tuple([later - own for own, later in zip(rows[start][2], rows[-1][2])])


def hottest_ever(works, rules):
    """The pair (greatest heat of a CHAMBER ever, least number of ticks behind which it is there)."""
    # Behind the tick at which it goes out no CHAMBER comes to more than some has then.
    heats = [max([chamber[HEAT] for chamber in row[1]]) for row in settled(works, rules)[0]]
    return max(heats), heats.index(max(heats))


def comes_seen(works, rules, other):
    """The least number of ticks behind which other is seen from some CHAMBER, or None."""
    wanted = tupled(other)
    rows = followed(tupled(works), tupled(rules), 0, True)[0]
    for tick, row in enumerate(rows):
        if turning_of(row, wanted) is not None:
            return tick
    return None


def longer_rings(works, filler):
    """The list of the WORKS with fillers behind the last CHAMBER, to 12 CHAMBERS."""
    make, chambers, ledger = tupled(works)
    own = (tupled(filler),)
    return [(make, chambers + own * more, ledger) for more in range(MOST_CHAMBERS + 1 - len(chambers))]


def rings_steady(works, filler, rules):
    """The set of the numbers of CHAMBERS, to 12, with which a WORKS is steady."""
    rings = longer_rings(works, filler)
    return tuple([len(ring[1]) for ring in rings if is_steady(ring, rules)])


def least_ring(works, filler, rules):
    """The least number of CHAMBERS, to 12, with which a WORKS is steady, or None."""
    for ring in longer_rings(works, filler):
        if is_steady(ring, rules):
            return len(ring[1])
    return None


def least_heat_for(works, rules, number):
    """The least heat, to 60, of a CHAMBER with which a WORKS is steady, or None."""
    make, chambers, ledger = tupled(works)
    need_chamber(chambers, number)
    for heat in range(MOST_HEAT + 1):
        chamber = replaced(chambers[number], HEAT, heat)
        if is_steady((make, replaced(chambers, number, chamber), ledger), rules):
            return heat
    return None
