"""Accounts of a PLAY: where its heat, its coal and its bricks come from and go to."""

from math import gcd

from ringkiln.back import set_of, told_done
from ringkiln.chambers import need_chamber
from ringkiln.deeds import works_behind
from ringkiln.draughts import draughts_in
from ringkiln.errors import NoKind
from ringkiln.kinds import counts_drawn, is_set, is_slag, pile_put
from ringkiln.runs import deeds_by_tick, nothing_barred, rules_used
from ringkiln.shapes import BROKEN, BURNT, COAL, GOOD, HEAT, KINDS, LOAD, SOFT, STAY
from ringkiln.shapes import replaced, same, tupled
from ringkiln.ticks import parts_with

MOST_PIECES = 12


def tick_played(works, rules, told):
    """A tick, what cannot be done passed over: (DEEDS done, DRAUGHTS, WORKS behind the steps 2, 4, 5, 6, 7, 8)."""
    behind_told, deeds = told_done(works, told, None)
    halfway, used = rules_used(behind_told, rules, nothing_barred)
    draughts = draughts_in(halfway[1])
    return deeds + [deed for _, deed in used], draughts, (halfway,) + parts_with(halfway, draughts)


def ticks_played(play):
    """The list of the ticks of a PLAY, a tuple, each as tick_played tells it."""
    now, rules, told, many = play
    rows = deeds_by_tick(told)
    ticks = []
    for tick in range(1, many + 1):
        ticks.append(tick_played(now, rules, rows.get(tick, [])))
        now = ticks[-1][2][-1]
    return ticks


def deeds_played(play):
    """The list of the triples (tick, WORKS ahead of the DEED, DEED) of all DEEDS that a PLAY, a tuple, does."""
    now = play[0]
    found = []
    for before, (deeds, _, parts) in enumerate(ticks_played(play)):
        for deed in deeds:
            found.append((before + 1, now, deed))
            now = works_behind(now, deed)
        now = parts[-1]
    return found


def last_of(play):
    """The WORKS behind a PLAY, a tuple."""
    return ticks_played(play)[-1][2][-1]


def heats_of(works):
    """The heats of a WORKS."""
    return [chamber[HEAT] for chamber in works[1]]


def air_rows(works, draughts):
    """The triples (number, what air brings, what it takes), along each of the DRAUGHTS of a WORKS."""
    rows = []
    for row in draughts:
        air = 0
        for number in row:
            brought = air
            air = (works[1][number][HEAT] + brought) // 2
            rows.append((number, brought, air))
    return rows


def heat_account(play):
    """For each CHAMBER the ROW (first, burnt, wood, brought, taken, earthed, last)."""
    own = tupled(play)
    first = heats_of(own[0])
    burnt, wood, brought, taken, earthed = [[0] * len(first) for _ in range(5)]
    last = first
    for deeds, draughts, parts in ticks_played(own):
        for deed in deeds:
            if deed[0] == "wood":
                wood[deed[1]] += deed[2]
        for number, more, less in air_rows(parts[0], draughts):
            brought[number] += more
            taken[number] += less
        aired, fired, last = [heats_of(parts[step]) for step in (1, 2, 3)]
        for number in range(len(first)):
            burnt[number] += fired[number] - aired[number]
            earthed[number] += fired[number] - last[number]
    return tuple([tuple(row) for row in zip(first, burnt, wood, brought, taken, earthed, last)])


def is_account(play, thing):
    """Whether thing is the heat_account of a PLAY."""
    return same(heat_account(play), thing)


def flue_by_place(play):
    """For each CHAMBER what went to flue from DRAUGHTS that end with it."""
    own = tupled(play)
    flues = [0] * len(own[0][1])
    for _, draughts, parts in ticks_played(own):
        ends = [row[-1] for row in draughts]
        for number, _, taken in air_rows(parts[0], draughts):
            if number in ends:
                flues[number] += taken
    return tuple(flues)


def burnt_row(play):
    """What was burnt of coal at each tick."""
    return tuple([parts[2][2][BURNT] - parts[1][2][BURNT] for _, _, parts in ticks_played(tupled(play))])


def air_gains(play):
    """For each CHAMBER by how much step 4 made it hotter while it had a SET."""
    own = tupled(play)
    gains = [0] * len(own[0][1])
    for _, _, parts in ticks_played(own):
        for number, (ahead, behind) in enumerate(zip(parts[0][1], parts[1][1])):
            if is_set(ahead[LOAD]):
                gains[number] += max(0, behind[HEAT] - ahead[HEAT])
    return tuple(gains)


def kind_counts(make, courses):
    """For each KIND of make how many bricks of it are in COURSES, or in GREEN."""
    counts = [0] * len(make[KINDS])
    for course in courses:
        counts[course[0]] += course[1]
    return counts


def counts_in_sets(works):
    """For each KIND how many bricks of it are in SETS."""
    courses = [course for chamber in works[1] if is_set(chamber[LOAD]) for course in chamber[LOAD]]
    return kind_counts(works[0], courses)


def courses_drawn(play):
    """The pair of lists of the COURSES, good and soft, that a PLAY, a tuple, draws."""
    kinds = play[0][0][KINDS]
    good = []
    soft = []
    for _, works, deed in deeds_played(play):
        if deed[0] == "draw":
            for course in works[1][deed[1]][LOAD]:
                if course[2] >= kinds[course[0]][STAY]:
                    good.append(course)
                else:
                    soft.append(course)
    return good, soft


def melted_in(play):
    """The list of the triples (tick, number, SET) of the SETS that become SLAG in a PLAY, a tuple."""
    found = []
    for before, (_, _, parts) in enumerate(ticks_played(play)):
        for number, (ahead, behind) in enumerate(zip(parts[3][1], parts[4][1])):
            if is_set(ahead[LOAD]) and is_slag(behind[LOAD]):
                found.append((before + 1, number, ahead[LOAD]))
    return found


def bricks_account(play):
    """For each KIND the ROW (first, set, good, soft, slag, left)."""
    own = tupled(play)
    make = own[0][0]
    pairs = [pair for _, _, deed in deeds_played(own) if deed[0] == "set" for pair in deed[2]]
    good, soft = courses_drawn(own)
    slag = [course for _, _, load in melted_in(own) for course in load]
    laid, drawn, spoilt, melted = [kind_counts(make, courses) for courses in (pairs, good, soft, slag)]
    first, left = counts_in_sets(own[0]), counts_in_sets(last_of(own))
    return tuple([tuple(row) for row in zip(first, laid, drawn, spoilt, melted, left)])


def drawn_by_place(play):
    """For each CHAMBER the ROW (good, soft, broken) of bricks drawn and cleared there."""
    own = tupled(play)
    rows = [(0, 0, 0) for _ in own[0][1]]
    for _, works, deed in deeds_played(own):
        if deed[0] in ("draw", "clear"):
            load = works[1][deed[1]][LOAD]
            counts = (0, 0, load) if is_slag(load) else counts_drawn(works[0], load) + (0,)
            rows[deed[1]] = tuple([one + more for one, more in zip(rows[deed[1]], counts)])
    return tuple(rows)


def good_share(play):
    """The pair in lowest terms of good bricks by all of the run; None if there are none."""
    own = tupled(play)
    ahead = own[0][2]
    behind = last_of(own)[2]
    good, soft, broken = [behind[place] - ahead[place] for place in (GOOD, SOFT, BROKEN)]
    every = good + soft + broken
    if every == 0:
        return None
    common = gcd(good, every)
    return good // common, every // common


def kinds_that_fire(play, number):
    """The set of the KINDS that the heats of a CHAMBER would have fired."""
    own = tupled(play)
    need_chamber(own[0][1], number)
    heats = [parts[-1][1][number][HEAT] for _, _, parts in ticks_played(own)]
    found = []
    for kind, (mark, stay, melt) in enumerate(own[0][0][KINDS]):
        if len([heat for heat in heats if heat >= mark]) >= stay and max(heats) <= melt:
            found.append(kind)
    return tuple(found)


def slag_made(play):
    """The set of the pairs (tick, number) at which a SET became SLAG."""
    return tuple([(tick, number) for tick, number, _ in melted_in(tupled(play))])


def soft_drawn(play):
    """The set of the pairs (tick, number) at which a SET was drawn with some soft COURSE."""
    pairs = []
    for tick, works, deed in deeds_played(tupled(play)):
        if deed[0] == "draw" and counts_drawn(works[0], works[1][deed[1]][LOAD])[1] > 0:
            pairs.append((tick, deed[1]))
    return set_of(pairs)


def with_coal(works, number, pile):
    """The WORKS with a PILE put to the coal of a CHAMBER."""
    make, chambers, ledger = works
    chamber = chambers[number]
    return make, replaced(chambers, number, replaced(chamber, COAL, pile_put(chamber[COAL], pile))), ledger


def least_pieces(play, number, strength, kind, good):
    """The least number of pieces, to 12, put to a CHAMBER's coal, with which so many good bricks are drawn."""
    works, rules, told, many = tupled(play)
    need_chamber(works[1], number)
    if kind < 0 or kind >= len(works[0][KINDS]):
        raise NoKind(kind)
    for pieces in range(MOST_PIECES + 1):
        begun = with_coal(works, number, (strength,) * pieces)
        drawn = courses_drawn((begun, rules, told, many))[0]
        if kind_counts(works[0], drawn)[kind] >= good:
            return pieces
    return None
