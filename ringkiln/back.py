"""Told back: from the greatest heats, or the flue, the beginnings and faults that fit."""

from ringkiln.chambers import need_chamber
from ringkiln.deeds import bar_of, part_touched, works_behind
from ringkiln.draughts import draughts_in
from ringkiln.errors import NoPaper, NoTick
from ringkiln.runs import deeds_by_tick, rules_used
from ringkiln.shapes import FLUE, HEAT, KINDS, LOAD, SCREEN, TOP
from ringkiln.shapes import is_from, is_row, replaced, tupled
from ringkiln.ticks import air_step, burn_step, earth_step, mark_step, tick_step

FAULTS = ("damper", "screen", "wicket", "leak", "damp")


def is_fault(n, thing):
    """Whether thing is a FAULT of n CHAMBERS."""
    return is_row(thing, 2) and thing[0] in FAULTS and is_from(thing[1], 0) and thing[1] < n


def names_fit(works, deed):
    """Whether a WORKS has the CHAMBER and the KINDS that a DEED names."""
    if deed[1] < 0 or deed[1] >= len(works[1]):
        return False
    return deed[0] != "set" or all([0 <= kind < len(works[0][KINDS]) for kind, _ in deed[2]])


def told_done(works, deeds, fault):
    """Step 1 with a FAULT or None, what cannot be done passed over: the pair (WORKS behind it, list of DEEDS done)."""
    now = works
    used = []
    for deed in deeds:
        if part_touched(deed) != fault and names_fit(now, deed) and bar_of(now, deed) is None:
            now = works_behind(now, deed)
            used.append(deed)
    return now, used


def with_screen(works, number, screen):
    """The WORKS with the screen of a CHAMBER so."""
    make, chambers, ledger = works
    return make, replaced(chambers, number, replaced(chambers[number], SCREEN, screen)), ledger


def draughts_by(works, fault):
    """The DRAUGHTS with a FAULT or None."""
    if fault is not None and fault[0] == "leak":
        return draughts_in(with_screen(works, fault[1], False)[1])
    return draughts_in(works[1])


def burners_by(draughts, fault):
    """The DRAUGHTS without the CHAMBER whose coal a FAULT keeps from burning."""
    if fault is None or fault[0] != "damp":
        return draughts
    return [[number for number in row if number != fault[1]] for row in draughts]


def marked_by(works, fault):
    """Step 7 with a FAULT or None."""
    behind = mark_step(works)
    if fault is not None and fault[0] == "screen":
        return with_screen(behind, fault[1], works[1][fault[1]][SCREEN])
    return behind


def faulty_parts(works, deeds, rules, fault):
    """The WORKS behind the steps 1 and 2, 4, 5, 6, 7, 8 of a tick with a FAULT or None."""
    told = told_done(works, deeds, fault)[0]
    halfway = rules_used(told, rules, lambda deed: part_touched(deed) == fault)[0]
    draughts = draughts_by(halfway, fault)
    aired = air_step(halfway, draughts)
    burnt = burn_step(aired, burners_by(draughts, fault))
    earthed = earth_step(burnt)
    marked = marked_by(earthed, fault)
    return halfway, aired, burnt, earthed, marked, tick_step(marked)


def case_rows(case, rules, told, many):
    """The list of the WORKS behind 0, 1, .., many ticks of the run of a CASE."""
    works, fault = tupled(case)
    own_rules = tupled(rules)
    deeds = deeds_by_tick(tupled(told))
    rows = [works]
    for tick in range(1, many + 1):
        rows.append(faulty_parts(rows[-1], deeds.get(tick, []), own_rules, fault)[-1])
    return rows


def run_with(case, rules, told, many):
    """The WORKS behind the run of a CASE."""
    return case_rows(case, rules, told, many)[-1]


def flue_row(case, rules, told, many):
    """What goes to flue in the run of a CASE, tick by tick."""
    flues = [row[2][FLUE] for row in case_rows(case, rules, told, many)]
    return tuple([later - flue for flue, later in zip(flues, flues[1:])])


def begun_with(works, begun, start):
    """The WORKS with the heats of a start in the CHAMBERS of begun."""
    make, chambers, ledger = works
    for (number, _), heat in zip(begun, start):
        need_chamber(chambers, number)
        chamber = replaced(chambers[number], HEAT, heat)
        if chamber[LOAD] is not None:
            chamber = replaced(chamber, TOP, heat)
        chambers = replaced(chambers, number, chamber)
    return make, chambers, ledger


def case_of(play, unknown, guess):
    """The CASE of a GUESS."""
    begun, faults = tupled(unknown)
    start, fault = tupled(guess)
    return begun_with(tupled(play[0]), begun, start), faults[fault]


def all_guesses(unknown):
    """All GUESSES of an UNKNOWN, in order."""
    begun, faults = unknown
    starts = [()]
    for _, heats in begun:
        starts = [start + (heat,) for start in starts for heat in heats]
    return [(start, fault) for start in starts for fault in range(len(faults))]


def need_readings(play, readings):
    """Raise NoChamber for the first of READINGS whose CHAMBER is none."""
    for number, _ in readings:
        need_chamber(play[0][1], number)


def fits(works, reading):
    """Whether a reading fits the WORKS behind a run."""
    number, top = reading
    return works[1][number][TOP] == top


def runs_of(play, unknown):
    """A list of the pairs (GUESS, list of the WORKS behind each tick of its run), in order."""
    _, rules, told, many = play
    return [(guess, case_rows(case_of(play, unknown, guess), rules, told, many)) for guess in all_guesses(unknown)]


def runs_that_fit(play, unknown, readings):
    """The pairs of runs_of whose GUESSES fit."""
    found = []
    for guess, rows in runs_of(tupled(play), tupled(unknown)):
        if all([fits(rows[-1], reading) for reading in readings]):
            found.append((guess, rows))
    return found


def need_fitting(play, unknown, readings):
    """The pairs of runs_of whose GUESSES fit; NoPaper if there are none."""
    found = runs_that_fit(play, unknown, readings)
    if found == []:
        raise NoPaper()
    return found


def set_of(things):
    """The set of the things in a list."""
    own = sorted(things)
    return tuple([thing for place, thing in enumerate(own) if place == 0 or own[place - 1] != thing])


def only_of(things):
    """The one thing of a set, None if there are several."""
    return things[0] if len(things) == 1 else None


def guesses_that_fit(play, unknown, readings):
    """The GUESSES that fit, in order."""
    need_readings(play, readings)
    return tuple([guess for guess, _ in runs_that_fit(play, unknown, readings)])


def faults_that_fit(play, unknown, readings):
    """The set of the numbers of the faults of all GUESSES that fit."""
    need_readings(play, readings)
    return set_of([guess[1] for guess, _ in need_fitting(play, unknown, readings)])


def starts_that_fit(play, unknown, readings):
    """The set of the starts of all GUESSES that fit."""
    need_readings(play, readings)
    return set_of([guess[0] for guess, _ in need_fitting(play, unknown, readings)])


def sure_fault(play, unknown, readings):
    """The number of the fault of all GUESSES that fit; None if they have unlike numbers."""
    return only_of(faults_that_fit(play, unknown, readings))


def sure_heat(play, unknown, readings, number, tick):
    """The heat of a CHAMBER behind a tick in all GUESSES that fit; None if unlike."""
    return only_of(heats_left(play, unknown, readings, number, tick))


def heats_left(play, unknown, readings, number, tick):
    """The set of the heats of a CHAMBER behind a tick in all GUESSES that fit."""
    need_readings(play, readings)
    need_chamber(play[0][1], number)
    if tick < 0 or tick > play[3]:
        raise NoTick(tick)
    return set_of([rows[tick][1][number][HEAT] for _, rows in need_fitting(play, unknown, readings)])


def is_like(rows, row):
    """Whether what goes to flue in a run is like row where that is not None."""
    for before, flue in enumerate(row):
        if flue is not None and rows[before + 1][2][FLUE] - rows[before][2][FLUE] != flue:
            return False
    return True


def guesses_by_flue(play, unknown, row):
    """The GUESSES whose flue_row is like row where that is not None."""
    return tuple([guess for guess, rows in runs_of(tupled(play), tupled(unknown)) if is_like(rows, row)])


def misfit_rows(play, unknown, readings):
    """For each GUESS, in order, the list of the numbers of READINGS that it does not fit."""
    rows = []
    for _, run_rows in runs_of(tupled(play), tupled(unknown)):
        rows.append([number for number, reading in enumerate(readings) if not fits(run_rows[-1], reading)])
    return rows


def misfit(play, unknown, readings):
    """The MISFIT with the least numbers."""
    need_readings(play, readings)
    rows = misfit_rows(play, unknown, readings)
    if [] in rows:
        raise NoPaper()
    return tuple([row[0] for row in rows])


def is_misfit(play, unknown, readings, thing):
    """Whether thing is a MISFIT."""
    need_readings(play, readings)
    rows = misfit_rows(play, unknown, readings)
    if not is_row(thing, len(rows)):
        return False
    return all([is_from(number, 0) and number in row for number, row in zip(thing, rows)])
