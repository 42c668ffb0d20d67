"""DEEDS: what can be done at a CHAMBER, what bars it, what it does."""

from ringkiln.chambers import need_chamber
from ringkiln.errors import NoChamber, NoKind, NoPaper, Unfit
from ringkiln.kinds import counts_drawn, is_green, is_pile, is_set, is_slag
from ringkiln.shapes import BROKEN, BURNT, COAL, COOL, DAMPER, GOOD, HEAT, KINDS, LOAD, SCREEN, SOFT, WICKET
from ringkiln.shapes import grown, is_from, is_row, replaced, tupled


def is_act(thing):
    """Whether thing is an ACT, KINDS being any numbers from 0."""
    if not isinstance(thing, tuple) or thing == ():
        return False
    word = thing[0]
    if word in ("draw", "clear", "brick", "open"):
        return len(thing) == 1
    if len(thing) != 2:
        return False
    if word == "set":
        return is_green(thing[1])
    if word == "coal":
        return is_pile(thing[1])
    if word == "wood":
        return is_from(thing[1], 0)
    return word in ("damper", "screen") and isinstance(thing[1], bool)


def is_deed(thing):
    """Whether thing is a DEED, numbers of CHAMBERS and KINDS being any from 0."""
    if not isinstance(thing, tuple) or len(thing) < 2:
        return False
    return is_from(thing[1], 0) and is_act(thing[:1] + thing[2:])


def is_told(thing):
    """Whether thing is told DEEDS."""
    if not isinstance(thing, tuple):
        return False
    if not all([is_row(pair, 2) and is_from(pair[0], 1) and is_deed(pair[1]) for pair in thing]):
        return False
    return all([one[0] <= other[0] for one, other in zip(thing, thing[1:])])


def deed_of(act, number):
    """The DEED of an ACT at the CHAMBER of number."""
    return act[:1] + (number,) + act[1:]


def need_fit_names(works, deed):
    """Raise NoChamber or NoKind for what a DEED names and the WORKS does not have."""
    need_chamber(works[1], deed[1])
    if deed[0] == "set":
        for kind, _ in deed[2]:
            if kind < 0 or kind >= len(works[0][KINDS]):
                raise NoKind(kind)


def door_wanted(deed):
    """The pair (place in the CHAMBER, value) that brick, open, damper, screen make so."""
    word = deed[0]
    if word == "brick":
        return WICKET, False
    if word == "open":
        return WICKET, True
    if word == "damper":
        return DAMPER, deed[2]
    return SCREEN, deed[2]


def part_touched(deed):
    """The pair (part, number) of what a DEED is done to: of doors the words that FAULTS have for them."""
    if deed[0] in ("brick", "open"):
        return "wicket", deed[1]
    return deed[:2]


def is_load_for(word, load):
    """Whether a load is such that set, draw or clear can be done to it."""
    if word == "set":
        return load is None
    if word == "draw":
        return is_set(load)
    return is_slag(load)


def bar_of(works, deed):
    """The first word that bars a DEED, None if it can be done."""
    word, number = deed[:2]
    make, chambers, _ = works
    chamber = chambers[number]
    if word in ("set", "draw", "clear"):
        if not is_load_for(word, chamber[LOAD]):
            return "load"
        if not chamber[WICKET]:
            return "wicket"
        return None if chamber[HEAT] < make[COOL] else "heat"
    if word == "coal":
        return None if deed[2] != () else "nothing"
    if word == "wood":
        return None if deed[2] > 0 else "nothing"
    place, value = door_wanted(deed)
    return None if chamber[place] != value else "same"


def chamber_behind(chamber, deed):
    """The CHAMBER behind a DEED at it that can be done."""
    word = deed[0]
    load, heat, top, coal, wicket, damper, screen = chamber
    if word == "set":
        green = tuple([(kind, count, 0) for kind, count in deed[2]])
        return green, heat, heat, coal, wicket, damper, screen
    if word in ("draw", "clear"):
        return None, heat, 0, coal, wicket, damper, screen
    if word == "coal":
        return replaced(chamber, COAL, tuple(sorted(coal + deed[2])))
    if word == "wood":
        warm = heat + deed[2]
        return load, warm, top if load is None else max(top, warm), coal, wicket, damper, screen
    place, value = door_wanted(deed)
    return replaced(chamber, place, value)


def ledger_behind(works, deed):
    """The LEDGER behind a DEED that can be done."""
    make, chambers, ledger = works
    load = chambers[deed[1]][LOAD]
    if deed[0] == "draw":
        good, soft = counts_drawn(make, load)
        return grown(grown(ledger, GOOD, good), SOFT, soft)
    if deed[0] == "clear":
        return grown(ledger, BROKEN, load)
    if deed[0] == "wood":
        return grown(ledger, BURNT, deed[2])
    return ledger


def works_behind(works, deed):
    """The WORKS, a tuple, behind a DEED that can be done."""
    make, chambers, _ = works
    number = deed[1]
    behind = replaced(chambers, number, chamber_behind(chambers[number], deed))
    return make, behind, ledger_behind(works, deed)


def deed_done(works, deed):
    """The WORKS, a tuple, behind a DEED that is looked at first."""
    need_fit_names(works, deed)
    if bar_of(works, deed) is not None:
        raise Unfit()
    return works_behind(works, deed)


def why_not(works, deed):
    """The first word that bars a DEED, None if it can be done."""
    own = tupled(works)
    own_deed = tupled(deed)
    need_fit_names(own, own_deed)
    return bar_of(own, own_deed)


def can_do(works, deed):
    """Whether a DEED can be done."""
    return why_not(works, deed) is None


def done(works, deed):
    """The WORKS behind a DEED."""
    return deed_done(tupled(works), tupled(deed))


def deeds_done(works, deeds):
    """The WORKS behind all DEEDS, one after another."""
    now = tupled(works)
    for deed in tupled(deeds):
        now = deed_done(now, deed)
    return now


def deeds_here(works, number):
    """The DEEDS without green, pile and heat that can be done at a CHAMBER, ascending."""
    own = tupled(works)
    need_chamber(own[1], number)
    acts = [("brick",), ("clear",), ("draw",), ("open",)]
    acts.extend([(word, yes) for word in ("damper", "screen") for yes in (False, True)])
    deeds = [deed_of(act, number) for act in acts]
    return sorted([deed for deed in deeds if bar_of(own, deed) is None])


def deed_turned(deed, by, many):
    """The DEED, of a ring of many, at the CHAMBER by ahead."""
    own = tupled(deed)
    if own[1] < 0 or own[1] >= many:
        raise NoChamber(own[1])
    return replaced(own, 1, (own[1] + by) % many)


def undo_of(works, deed):
    """The DEED that takes a DEED back, None if there is none."""
    own_deed = tupled(deed)
    deed_done(tupled(works), own_deed)
    word, number = own_deed[:2]
    if word == "brick":
        return "open", number
    if word == "open":
        return "brick", number
    if word in ("damper", "screen"):
        return word, number, not own_deed[2]
    return None


def behind_both(works, one, other):
    """The WORKS behind one and then other, None if they cannot be done so."""
    if bar_of(works, one) is not None:
        return None
    half = works_behind(works, one)
    if bar_of(half, other) is not None:
        return None
    return works_behind(half, other)


def either_order(works, one, other):
    """Whether two DEEDS can be done in either order and make the same WORKS."""
    own = tupled(works)
    first = tupled(one)
    second = tupled(other)
    need_fit_names(own, first)
    need_fit_names(own, second)
    behind = behind_both(own, first, second)
    return behind is not None and behind == behind_both(own, second, first)


def without_doors(works):
    """The WORKS with nothing said of wickets, dampers and screens."""
    make, chambers, ledger = works
    return make, tuple([chamber[:WICKET] for chamber in chambers]), ledger


def doors_at(number, chamber, other):
    """The DEEDS that make the doors of a CHAMBER those of another one."""
    deeds = []
    if chamber[WICKET] != other[WICKET]:
        deeds.append(("open", number) if other[WICKET] else ("brick", number))
    if chamber[DAMPER] != other[DAMPER]:
        deeds.append(("damper", number, other[DAMPER]))
    if chamber[SCREEN] != other[SCREEN]:
        deeds.append(("screen", number, other[SCREEN]))
    return deeds


def doors_between(works, other):
    """The set of the DEEDS at doors that make the one WORKS the other."""
    one = tupled(works)
    two = tupled(other)
    if without_doors(one) != without_doors(two):
        raise NoPaper()
    deeds = []
    for number, (chamber, wanted) in enumerate(zip(one[1], two[1])):
        deeds.extend(doors_at(number, chamber, wanted))
    return tuple(sorted(deeds))
