"""Still ticks: how many of them a WORKS outlives, and which are the worst."""

from ringkiln.chambers import seen_in
from ringkiln.errors import NoPaper
from ringkiln.keeping import are_seen_pairs, has_fire, spread, ways_back, works_of
from ringkiln.runs import hot_chambers, rows_of_run, rules_done
from ringkiln.shapes import is_from, tupled
from ringkiln.ticks import ticked

MOST_STILLS = 3


def run_still(works, rules, stills, many):
    """The WORKS behind a run with these STILLS."""
    return rows_of_run(works, rules, (), stills, many)[-1]


def out_at(works, rules, stills, many):
    """The least number of ticks behind which a WORKS is out, or None."""
    for tick, row in enumerate(rows_of_run(works, rules, (), stills, many)):
        if hot_chambers(row) == ():
            return tick
    return None


def outlives(works, rules, stills, many):
    """Whether a WORKS is out behind none of these ticks."""
    return out_at(works, rules, stills, many) is None


def seen_after(make, seen, rules, is_still):
    """What is seen behind a tick, still or not, from what is seen ahead of it."""
    return seen_in(ticked(rules_done(works_of(make, seen), rules)[0], is_still), 0)


def put_least(table, seen, stills):
    """Keep for what is seen the least STILLS of those handed in for it."""
    if seen not in table or (len(stills), stills) < (len(table[seen]), table[seen]):
        table[seen] = stills


def layer_behind(make, rules, layer, tick, most):
    """For all that can be seen behind a tick, at most most ticks being still, the least STILLS to it.

    layer tells the same ahead of the tick.
    """
    behind = {}
    for seen, stills in layer.items():
        put_least(behind, seen_after(make, seen, rules, False), stills)
        if len(stills) < most:
            put_least(behind, seen_after(make, seen, rules, True), stills + (tick,))
    return behind


def killings(works, rules, most, many):
    """Pairs (tick, the least STILLS by which it is out at this tick), each with fewer STILLS than the one ahead."""
    make = works[0]
    layer = {seen_in(works, 0): ()}
    found = []
    for tick in range(many + 1):
        if tick > 0:
            layer = layer_behind(make, rules, layer, tick, most)
        deadly = [(len(stills), stills) for seen, stills in layer.items() if not has_fire(make, seen)]
        if deadly != []:
            found.append((tick, min(deadly)[1]))
            most = min(deadly)[0] - 1
        # What wants as many STILLS as are found already tells nothing more.
        layer = {seen: stills for seen, stills in layer.items() if has_fire(make, seen) and len(stills) <= most}
    return found


def greatest_stills(works, rules, many):
    """The greatest number of still ticks, at most 3, that a WORKS outlives; None if not even none."""
    most = min(MOST_STILLS, many)
    found = killings(tupled(works), tupled(rules), most, many)
    if found == []:
        return most
    fewest = len(found[-1][1])
    return fewest - 1 if fewest > 0 else None


def worst_stills(works, rules, most, many):
    """The least STILLS by which a WORKS is out at the least tick."""
    found = killings(tupled(works), tupled(rules), most, many)
    if found == []:
        raise NoPaper()
    return found[0][1]


def is_killing(works, rules, most, many, thing):
    """Whether thing is STILLS, at most most, by which a WORKS is out within many ticks."""
    if not isinstance(thing, tuple) or len(thing) > most or not all([is_from(tick, 1) for tick in thing]):
        return False
    if not all([tick <= many for tick in thing]) or not all([one < other for one, other in zip(thing, thing[1:])]):
        return False
    return not outlives(works, rules, thing, many)


def helped_by(works, rules, many):
    """The set of the ticks that alone still let a WORKS be out later, or not at all."""
    without = out_at(works, rules, (), many)
    if without is None:
        return ()
    found = []
    for tick in range(1, many + 1):
        own = out_at(works, rules, (tick,), many)
        if own is None or own > without:
            found.append(tick)
    return tuple(found)


def never_kills(works, rules, many):
    """The set of the ticks that alone still do not let a WORKS be out."""
    return tuple([tick for tick in range(1, many + 1) if outlives(works, rules, (tick,), many)])


def left_behind(make, rules, pair):
    """What comes of a pair (seen, left): with wind, then still if some are left; nothing if it is out."""
    seen, left = pair
    if not has_fire(make, seen):
        return []
    behind = [(seen_after(make, seen, rules, False), left)]
    if left > 0:
        behind.append((seen_after(make, seen, rules, True), left - 1))
    return behind


def left_spread(works, rules, most):
    """The pair of lists (all pairs (seen, left) that can come, in order; for each the numbers of what comes of it)."""
    own = tupled(works)
    own_rules = tupled(rules)
    return spread((seen_in(own, 0), most), lambda pair: left_behind(own[0], own_rules, pair))


def outlives_all(works, rules, most):
    """Whether a WORKS is never out, whatever at most most ticks are still."""
    return () not in left_spread(works, rules, most)[1]


def outliving_list(works, rules, most):
    """The OUTLIVING LIST of all that can come."""
    lot, ways = left_spread(works, rules, most)
    if () in ways:
        raise NoPaper()
    return tuple(lot)


def stills_wanted(ways):
    """For each number how many still ticks it wants at least to be out; None if none of them do it."""
    befores = ways_back(ways)
    wanted = [0 if row == () else None for row in ways]
    queue = [place for place, row in enumerate(ways) if row == ()]
    many = 0
    while queue != []:
        by_still = []
        at = 0
        while at < len(queue):
            place = queue[at]
            for before in befores[place]:
                if wanted[before] is None and ways[before][0] == place:
                    wanted[before] = many
                    queue.append(before)
                elif wanted[before] is None:
                    by_still.append(before)
            at += 1
        many += 1
        queue = []
        for place in by_still:
            if wanted[place] is None:
                wanted[place] = many
                queue.append(place)
    return wanted


def killing_stills(works, rules, most):
    """The least STILLS by which a WORKS is out at some tick."""
    ways = left_spread(works, rules, most)[1]
    wanted = stills_wanted(ways)
    if wanted[0] is None:
        raise NoPaper()
    place = 0
    tick = 1
    stills = []
    while wanted[place] > 0:
        row = ways[place]
        if len(row) > 1 and wanted[row[1]] == wanted[place] - 1:
            stills.append(tick)
            place = row[1]
        else:
            place = row[0]
        tick += 1
    return tuple(stills)


def is_outliving_list(works, rules, most, thing):
    """Whether thing is an OUTLIVING LIST."""
    own = tupled(works)
    own_rules = tupled(rules)
    if not are_seen_pairs(own, thing, 0):
        return False
    table = {pair: True for pair in thing}
    if len(table) < len(thing) or (seen_in(own, 0), most) not in table:
        return False
    return all([behind in table for pair in thing for behind in left_behind(own[0], own_rules, pair)])
