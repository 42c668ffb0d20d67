"""KINDS of bricks, piles of coal, and what heat makes of a load."""

from ringkiln.errors import Unfit
from ringkiln.shapes import KINDS, LAG, STAY, is_from, is_row, tupled


def is_kind(thing):
    """Whether thing is a KIND."""
    if not is_row(thing, 3):
        return False
    mark, stay, melt = thing
    return is_from(mark, 1) and is_from(stay, 1) and is_from(melt, mark)


def is_make(thing):
    """Whether thing is a MAKE."""
    if not is_row(thing, 6):
        return False
    kinds, lag, kindling, cool, burns, earth = thing
    if not isinstance(kinds, tuple) or kinds == ():
        return False
    if not all([is_kind(kind) for kind in kinds]):
        return False
    if not is_from(lag, 0) or not all([is_from(bound, 1) for bound in (kindling, cool, burns)]):
        return False
    return is_from(earth, 0) and earth != 1


def is_pile(thing):
    """Whether thing is a PILE."""
    if not isinstance(thing, tuple) or not all([is_from(strength, 1) for strength in thing]):
        return False
    return all([one <= other for one, other in zip(thing, thing[1:])])


def is_green(thing):
    """Whether thing is GREEN, KINDS being any numbers from 0."""
    if not isinstance(thing, tuple) or thing == ():
        return False
    return all([is_row(pair, 2) and is_from(pair[0], 0) and is_from(pair[1], 1) for pair in thing])


def is_slag(load):
    """Whether a load is SLAG."""
    return isinstance(load, int)


def is_set(load):
    """Whether a load is a SET."""
    return isinstance(load, tuple)


def pile_put(pile, other):
    """Both piles put together."""
    return tuple(sorted(tupled(pile) + tupled(other)))


def pile_less(pile, many):
    """The pile without its first many pieces."""
    if many > len(pile):
        raise Unfit()
    return tupled(pile)[many:]


def course_heats(make, heat, many):
    """The heats of COURSES 0 to many - 1 in a CHAMBER of heat."""
    return tuple([max(0, heat - place * make[LAG]) for place in range(many)])


def load_marked(make, load, heat):
    """What step 7 of a tick makes of a load, a tuple if it is a SET, at this heat."""
    if not is_set(load):
        return load
    courses = []
    melted = False
    for (kind, count, stood), own_heat in zip(load, course_heats(make, heat, len(load))):
        mark, _, melt = make[KINDS][kind]
        courses.append((kind, count, stood + 1 if own_heat >= mark else stood))
        melted = melted or own_heat > melt
    if melted:
        return sum([course[1] for course in load])
    return tuple(courses)


def load_behind(make, load, heats):
    """What the load is behind ticks whose step 7 finds its CHAMBER at these heats."""
    now = tupled(load)
    for heat in heats:
        now = load_marked(make, now, heat)
    return now


def counts_drawn(make, load):
    """The pair (good, soft) of a SET."""
    good = 0
    soft = 0
    for kind, count, stood in load:
        if stood >= make[KINDS][kind][STAY]:
            good += count
        else:
            soft += count
    return good, soft


def drawn_as(make, load):
    """The pair (good, soft) that the load would be if drawn now."""
    own = tupled(load)
    if not is_set(own):
        raise Unfit()
    return counts_drawn(make, own)


def stay_left(make, load):
    """How many ticks more in firing_heats the COURSES of a load want to be good."""
    own = tupled(load)
    if not is_set(own):
        raise Unfit()
    return max([max(0, make[KINDS][kind][STAY] - stood) for kind, _, stood in own])


def firing_heats(make, green):
    """The pair of the least and the greatest heat that fires all of green, or None."""
    least = 0
    greatest = None
    for place, (kind, _) in enumerate(green):
        mark, _, melt = make[KINDS][kind]
        below = place * make[LAG]
        least = max(least, mark + below)
        if greatest is None or melt + below < greatest:
            greatest = melt + below
    if least > greatest:
        return None
    return least, greatest


def orders_from(make, begun, rest):
    """All GREEN that fire, begin with begun and go on with rest, ascending, in some order."""
    # A beginning that does not fire fires with nothing upon it either.
    if begun != () and firing_heats(make, begun) is None:
        return []
    if rest == ():
        return [begun]
    found = []
    for place, pair in enumerate(rest):
        if place == 0 or pair != rest[place - 1]:
            found.extend(orders_from(make, begun + (pair,), rest[:place] + rest[place + 1:]))
    return found


def orders_that_fire(make, green):
    """All GREEN of the same pairs, in whatever order, that have firing_heats."""
    return orders_from(make, (), tuple(sorted(tupled(green))))
