"""CHAMBERS, the WORKS that they make in a ring, and what is seen of them."""

from ringkiln.errors import NoChamber
from ringkiln.kinds import counts_drawn, is_make, is_pile, is_set, is_slag
from ringkiln.shapes import COAL, HEAT, KINDS, LOAD, PARTS, STAY
from ringkiln.shapes import is_from, is_number, is_row, replaced, tupled


def need_chamber(chambers, number):
    """Raise NoChamber if number is not that of one of the chambers."""
    if number < 0 or number >= len(chambers):
        raise NoChamber(number)


def is_course(make, thing):
    """Whether thing is a COURSE of a KIND of make."""
    if not is_row(thing, 3):
        return False
    kind, count, stood = thing
    return is_from(kind, 0) and kind < len(make[KINDS]) and is_from(count, 1) and is_from(stood, 0)


def is_load(make, thing):
    """Whether thing is None, SLAG, or a SET of KINDS of make."""
    if thing is None:
        return True
    if is_number(thing):
        return thing >= 1
    if not isinstance(thing, tuple) or thing == ():
        return False
    return all([is_course(make, course) for course in thing])


def is_chamber(make, thing):
    """Whether thing is a CHAMBER with KINDS of make."""
    if not is_row(thing, 7):
        return False
    load, heat, top, coal, wicket, damper, screen = thing
    if not is_load(make, load) or not is_from(heat, 0) or not is_from(top, 0):
        return False
    if load is None and top != 0:
        return False
    return is_pile(coal) and all([isinstance(part, bool) for part in (wicket, damper, screen)])


def is_works(thing):
    """Whether thing is a WORKS."""
    if not is_row(thing, 3):
        return False
    make, chambers, ledger = thing
    if not is_make(make) or not isinstance(chambers, tuple) or len(chambers) < 3:
        return False
    if not all([is_chamber(make, chamber) for chamber in chambers]):
        return False
    return is_row(ledger, 7) and all([is_from(number, 0) for number in ledger])


def empty_works(make, many):
    """The WORKS of many empty, cold, shut CHAMBERS."""
    chamber = (None, 0, 0, (), False, False, True)
    return tupled(make), (chamber,) * many, (0,) * 7


def with_chamber(works, number, chamber):
    """The WORKS with chamber in the place of the one of number."""
    make, chambers, ledger = tupled(works)
    need_chamber(chambers, number)
    return make, replaced(chambers, number, tupled(chamber)), ledger


def turned_works(works, by):
    """The WORKS whose CHAMBER k is what that of k and by was."""
    make, chambers, ledger = tupled(works)
    many = len(chambers)
    return make, tuple([chambers[(place + by) % many] for place in range(many)]), ledger


def mirror_works(works):
    """The WORKS seen from the other side of the ring."""
    make, chambers, ledger = tupled(works)
    last = len(chambers) - 1
    # The screen towards the next one now is what the next one had at its far side.
    mirrored = [chambers[last - place][:6] + (chambers[last - place - 1][6],) for place in range(last + 1)]
    return make, tuple(mirrored), ledger


def bricks_in(works):
    """The counts (good, soft, broken) if all were drawn or cleared now."""
    make, chambers, _ = tupled(works)
    good = 0
    soft = 0
    broken = 0
    for chamber in chambers:
        load = chamber[LOAD]
        if is_slag(load):
            broken += load
        elif is_set(load):
            own_good, own_soft = counts_drawn(make, load)
            good += own_good
            soft += own_soft
    return good, soft, broken


def holds_at(chamber, test):
    """Whether a TEST holds at a CHAMBER."""
    word = test[0]
    if word == "empty":
        return chamber[LOAD] is None
    if word == "set":
        return is_set(chamber[LOAD])
    if word == "slag":
        return is_slag(chamber[LOAD])
    if word == "below":
        return chamber[HEAT] < test[1]
    if word == "from":
        return chamber[HEAT] >= test[1]
    if word == "pieces":
        return len(chamber[COAL]) < test[1]
    return chamber[PARTS.index(word)] == test[1]


def test_holds(works, number, test):
    """Whether a TEST holds at the CHAMBER of number."""
    own = tupled(works)
    need_chamber(own[1], number)
    return holds_at(own[1][number], test)


def load_seen(make, load):
    """The load, what its COURSES have stood cut to stay of their KINDS."""
    if not is_set(load):
        return load
    return tuple([(kind, count, min(stood, make[KINDS][kind][STAY])) for kind, count, stood in load])


def seen_in(works, number):
    """What is seen from the CHAMBER of number in a WORKS, a tuple, once round the ring."""
    make, chambers, _ = works
    seen = []
    for load, heat, _, coal, wicket, damper, screen in chambers[number:] + chambers[:number]:
        seen.append((load_seen(make, load), heat, coal, wicket, damper, screen))
    return tuple(seen)


def seen_from(works, number):
    """What is seen from the CHAMBER of number, once round the ring."""
    own = tupled(works)
    need_chamber(own[1], number)
    return seen_in(own, number)
