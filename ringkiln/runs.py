"""Runs: told DEEDS, RULES and ticks, one behind the other."""

from ringkiln.chambers import holds_at
from ringkiln.deeds import bar_of, deed_done, deed_of, deed_turned, works_behind
from ringkiln.shapes import HEAT, KINDLING, TOP, tupled
from ringkiln.ticks import ticked


def hot_chambers(works):
    """The set of the CHAMBERS with heat from kindling on, which are those in FIRES."""
    bound = works[0][KINDLING]
    return tuple([number for number, chamber in enumerate(works[1]) if chamber[HEAT] >= bound])


def fronts_in(works):
    """The set of the fronts of a WORKS."""
    hot = hot_chambers(works)
    many = len(works[1])
    return tuple([number for number in hot if (number + 1) % many not in hot])


def is_ruled(works, when, deed):
    """Whether a RULE with the TESTS of when does a DEED to a WORKS as it stands."""
    chamber = works[1][deed[1]]
    return all([holds_at(chamber, test) for test in when]) and bar_of(works, deed) is None


def rules_used(works, rules, is_barred):
    """Step 2: the pair (WORKS behind it, the list of the pairs (RULE's number, DEED)).

    is_barred tells of a DEED that could be done whether it is passed over all the same.
    """
    now = works
    fronts = fronts_in(works)
    used = []
    for number, (place, when, act) in enumerate(rules):
        for front in fronts:
            deed = deed_of(act, (front + place) % len(works[1]))
            if is_ruled(now, when, deed) and not is_barred(deed):
                now = works_behind(now, deed)
                used.append((number, deed))
    return now, used


def nothing_barred(_):
    """No DEED of RULES is passed over that could be done."""
    return False


def rules_done(works, rules):
    """Step 2: the pair (WORKS behind it, the list of the DEEDS that RULES did)."""
    now, used = rules_used(works, rules, nothing_barred)
    return now, [deed for _, deed in used]


def tick_by(works, rules):
    """The WORKS, a tuple, behind a tick by RULES alone."""
    return ticked(rules_done(works, rules)[0], False)


def deeds_by_tick(told):
    """A dict with the list of the told DEEDS of each tick that has some."""
    rows = {}
    for tick, deed in told:
        rows.setdefault(tick, []).append(deed)
    return rows


def told_ticks(works, rules, told, stills, many):
    """Tick by tick of a run: (told DEEDS, DEEDS by RULES, WORKS behind step 2, WORKS behind the tick)."""
    now = works
    told_rows = deeds_by_tick(told)
    ticks = []
    for tick in range(1, many + 1):
        told_now = told_rows.get(tick, [])
        for deed in told_now:
            now = deed_done(now, deed)
        halfway, ruled_now = rules_done(now, rules)
        now = ticked(halfway, tick in stills)
        ticks.append((told_now, ruled_now, halfway, now))
    return ticks


def rows_of_run(works, rules, told, stills, many):
    """The list of the WORKS behind 0, 1, .., many ticks of a run."""
    own = tupled(works)
    ticks = told_ticks(own, tupled(rules), tupled(told), stills, many)
    return [own] + [tick[3] for tick in ticks]


def run(works, rules, told, stills, many):
    """The WORKS behind a run."""
    return rows_of_run(works, rules, told, stills, many)[-1]


def works_rows(works, rules, told, stills, many):
    """The WORKS behind 0, 1, .., many ticks."""
    return tuple(rows_of_run(works, rules, told, stills, many))


def heat_rows(works, rules, told, stills, many):
    """The heats behind 0, 1, .., many ticks."""
    rows = rows_of_run(works, rules, told, stills, many)
    return tuple([tuple([chamber[HEAT] for chamber in row[1]]) for row in rows])


def ledger_rows(works, rules, told, stills, many):
    """The LEDGERS behind 0, 1, .., many ticks."""
    return tuple([row[2] for row in rows_of_run(works, rules, told, stills, many)])


def tops_after(works, rules, told, stills, many):
    """The set of the pairs (number, top) behind a run."""
    behind = rows_of_run(works, rules, told, stills, many)[-1]
    return tuple([(number, chamber[TOP]) for number, chamber in enumerate(behind[1])])


def as_told(works, rules, told, stills, many):
    """The told DEEDS that do, without RULES, what a run's told DEEDS and RULES do."""
    ticks = told_ticks(tupled(works), tupled(rules), tupled(told), stills, many)
    rows = []
    for before, tick in enumerate(ticks):
        rows.extend([(before + 1, deed) for deed in tick[0] + tick[1]])
    return tuple(rows)


def told_turned(told, by, many):
    """The told DEEDS, of a ring of many, turned."""
    return tuple([(tick, deed_turned(deed, by, many)) for tick, deed in told])


def told_from(told, number):
    """What is told for ticks behind this one, ticks counted on from there."""
    return tuple([(tick - number, deed) for tick, deed in tupled(told) if tick > number])


def stills_from(stills, number):
    """The STILLS behind this tick, ticks counted on from there."""
    return tuple([tick - number for tick in stills if tick > number])
