"""What to look at next: looks that part cases, plans of them, and doubts that no plan ends."""

from ringkiln.back import case_rows, set_of
from ringkiln.chambers import need_chamber
from ringkiln.errors import NoPaper
from ringkiln.shapes import COAL, FLUE, HEAT, TOP, is_from, is_number, is_row, number_sets

TICK = 1


def is_look(thing, n):
    """Whether thing is a LOOK of n CHAMBERS."""
    if is_row(thing, 2):
        return thing[0] == "flue" and is_from(thing[1], 1)
    if not is_row(thing, 3) or thing[0] not in ("heat", "top", "coal"):
        return False
    return is_from(thing[1], 1) and is_from(thing[2], 0) and thing[2] < n


def need_looks(case, looks):
    """Raise NoChamber for the first of looks whose CHAMBER is none."""
    for look in looks:
        if look[0] != "flue":
            need_chamber(case[0][1], look[2])


def shown_in(rows, look):
    """What a look shows in the WORKS behind 0, 1, .. ticks of a run."""
    works = rows[look[TICK]]
    if look[0] == "flue":
        return works[2][FLUE]
    chamber = works[1][look[2]]
    if look[0] == "heat":
        return chamber[HEAT]
    return chamber[TOP] if look[0] == "top" else len(chamber[COAL])


def shown_by(case, rules, told, look):
    """What a look shows of a CASE."""
    need_looks(case, [look])
    return shown_in(case_rows(case, rules, told, look[TICK]), look)


def shown_rows(cases, rules, told, looks):
    """For each of looks the list of what it shows of the CASES."""
    need_looks(cases[0], looks)
    last = max([0] + [look[TICK] for look in looks])
    runs = [case_rows(case, rules, told, last) for case in cases]
    return [[shown_in(rows, look) for rows in runs] for look in looks]


def parted(row, lot):
    """The pairs (shown, the set of those of a lot of CASES of which row has this), ascending."""
    values = set_of([row[number] for number in lot])
    return [(shown, tuple([number for number in lot if row[number] == shown])) for shown in values]


def all_numbers(things):
    """The set of the numbers of things."""
    return tuple(range(len(things)))


def parted_by(cases, rules, told, look):
    """The pairs (shown, the set of the CASES of which look shows this), ascending."""
    return parted(shown_rows(cases, rules, told, [look])[0], all_numbers(cases))


def pairs_of(many):
    """All pairs of numbers below many, the first one below the second one, ascending."""
    return [(one, other) for one in range(many) for other in range(one + 1, many)]


def worth_of(cases, rules, told, look):
    """How many pairs of CASES a look shows unlike."""
    row = shown_rows(cases, rules, told, [look])[0]
    return len([one for one, other in pairs_of(len(cases)) if row[one] != row[other]])


def best_look(cases, rules, told, looks):
    """The pair (size of the greatest set that it leaves, number) of the look that parts CASES best."""
    left = []
    for number, row in enumerate(shown_rows(cases, rules, told, looks)):
        sizes = [len(lot) for _, lot in parted(row, all_numbers(cases))]
        left.append((max(sizes), number))
    return min(left)


def blind_in(rows, many):
    """The set of the pairs of so many CASES of which each of rows has the same."""
    return tuple([(one, other) for one, other in pairs_of(many) if all([row[one] == row[other] for row in rows])])


def blind_pairs(cases, rules, told, looks):
    """The set of the pairs of CASES of which all looks show the same."""
    return blind_in(shown_rows(cases, rules, told, looks), len(cases))


def least_looks(cases, rules, told, looks):
    """The least set of numbers of looks that leave just the blind pairs of all."""
    rows = shown_rows(cases, rules, told, looks)
    blind = blind_in(rows, len(cases))
    # The last of the sets has all numbers, so that one is found.
    for numbers in number_sets(len(rows)):
        if blind_in([rows[number] for number in numbers], len(cases)) == blind:
            return numbers
    return None


def plan_from(ticks, rows, lot, most, tick):
    """A PLAN of most looks for a lot of CASES from a tick, None if there is none.

    ticks and rows tell of each look its tick and what it shows.
    """
    if len(lot) == 1:
        return ()
    if most == 0:
        return None
    for number, own_tick in enumerate(ticks):
        groups = parted(rows[number], lot)
        # A look that shows one number of all of them only wastes a look.
        if own_tick >= tick and len(groups) > 1:
            plans = [plan_from(ticks, rows, group, most - 1, own_tick) for _, group in groups]
            if None not in plans:
                return number, tuple([(group[0], plan) for group, plan in zip(groups, plans)])
    return None


def ticks_of(looks):
    """The ticks of looks."""
    return [look[TICK] for look in looks]


def plan_of(cases, rules, told, looks, most):
    """A PLAN of most looks of all CASES from tick 1, None if there is none."""
    rows = shown_rows(cases, rules, told, looks)
    return plan_from(ticks_of(looks), rows, all_numbers(cases), most, 1)


def looks_needed(cases, rules, told, looks):
    """The least number of looks of which there is a PLAN of all CASES; None if there is none."""
    rows = shown_rows(cases, rules, told, looks)
    # A look that is made again parts nothing more.
    for most in range(len(rows) + 1):
        if plan_from(ticks_of(looks), rows, all_numbers(cases), most, 1) is not None:
            return most
    return None


def looks_plan(cases, rules, told, looks, most):
    """A PLAN of most looks of all CASES from tick 1."""
    plan = plan_of(cases, rules, told, looks, most)
    if plan is None:
        raise NoPaper()
    return plan


def doubt_from(ticks, rows, lot, most, tick):
    """The DOUBT of most looks from a tick with a lot of CASES of which there is no PLAN."""
    if most == 0:
        return lot, ()
    answers = []
    for number, own_tick in enumerate(ticks):
        if own_tick < tick:
            answers.append(None)
        else:
            groups = [group for _, group in parted(rows[number], lot)]
            left = [group for group in groups if plan_from(ticks, rows, group, most - 1, own_tick) is None]
            answers.append(doubt_from(ticks, rows, left[0], most - 1, own_tick))
    return lot, tuple(answers)


def looks_doubt(cases, rules, told, looks, most):
    """A DOUBT of most looks of all CASES from tick 1."""
    rows = shown_rows(cases, rules, told, looks)
    lot = all_numbers(cases)
    if plan_from(ticks_of(looks), rows, lot, most, 1) is not None:
        raise NoPaper()
    return doubt_from(ticks_of(looks), rows, lot, most, 1)


def is_plan_from(ticks, rows, lot, most, tick, thing):
    """Whether thing is a PLAN of most looks for a lot of CASES from a tick."""
    if len(lot) == 1:
        return isinstance(thing, tuple) and thing == ()
    if most == 0 or not is_row(thing, 2) or not isinstance(thing[1], tuple):
        return False
    number, branches = thing
    if not is_from(number, 0) or number >= len(ticks) or ticks[number] < tick:
        return False
    groups = parted(rows[number], lot)
    if len(branches) != len(groups):
        return False
    for (shown, group), branch in zip(groups, branches):
        if not is_row(branch, 2) or not is_number(branch[0]) or branch[0] != shown:
            return False
        if not is_plan_from(ticks, rows, group, most - 1, ticks[number], branch[1]):
            return False
    return True


def is_looks_plan(cases, rules, told, looks, most, thing):
    """Whether thing is a PLAN of most looks of all CASES from tick 1."""
    rows = shown_rows(cases, rules, told, looks)
    return is_plan_from(ticks_of(looks), rows, all_numbers(cases), most, 1, thing)


def is_lot(lot, thing):
    """Whether thing is a set of two or more of a lot of CASES."""
    if not isinstance(thing, tuple) or len(thing) < 2 or not all([is_number(number) for number in thing]):
        return False
    return all([number in lot for number in thing]) and all([one < other for one, other in zip(thing, thing[1:])])


def is_doubt_from(ticks, rows, lot, most, tick, thing):
    """Whether thing is a DOUBT of most looks from a tick whose lot lies in this one."""
    if not is_row(thing, 2) or not is_lot(lot, thing[0]):
        return False
    own_lot, answers = thing
    if not is_row(answers, len(ticks) if most > 0 else 0):
        return False
    for number, answer in enumerate(answers):
        if ticks[number] < tick:
            if answer is not None:
                return False
        elif not is_doubt_shown(ticks, rows, own_lot, most - 1, number, answer):
            return False
    return True


def is_doubt_shown(ticks, rows, lot, most, number, thing):
    """Whether thing is a DOUBT in a lot, from the tick of this look, that shows one number of all of its CASES."""
    if not is_doubt_from(ticks, rows, lot, most, ticks[number], thing):
        return False
    return len(parted(rows[number], thing[0])) == 1


def is_looks_doubt(cases, rules, told, looks, most, thing):
    """Whether thing is a DOUBT of most looks of all CASES from tick 1."""
    rows = shown_rows(cases, rules, told, looks)
    return is_doubt_from(ticks_of(looks), rows, all_numbers(cases), most, 1, thing)
