"""The last tick that saves: up to it a fire can be kept, behind it no more."""

from ringkiln.chambers import seen_in
from ringkiln.errors import NoPaper, NoTick, TooMany
from ringkiln.keeping import MOST_SEEN, death_list, deaths, has_fire, is_death_list, is_kept_lot, kept_lot
from ringkiln.keeping import need_choice, rules_taken, safe_in, seen_behind, seen_spread, ways_back
from ringkiln.runs import hot_chambers, tick_by
from ringkiln.shapes import is_from, is_row, tupled


def need_choices(choices, takes):
    """Raise NoChoice for the first number in takes that is that of none of the choices."""
    for number in takes:
        need_choice(choices, number)


def behind_takes(works, rules, choices, takes):
    """The WORKS behind takes."""
    need_choices(choices, takes)
    rows = rules_taken(rules, choices)
    now = tupled(works)
    for number in takes:
        now = tick_by(now, rows[number])
    return now


def alone_row(ways, place):
    """The numbers of what comes from place on by 0, 0, .., till it is out; None if it goes alone."""
    row = []
    passed = {}
    while ways[place] != ():
        if place in passed:
            return None
        passed[place] = True
        row.append(place)
        place = ways[place][0]
    return row


def saves_at(works, rules, choices, tick):
    """Whether the WORKS ahead of this tick of the run by 0, 0, .. can be kept."""
    if tick < 1:
        raise NoTick(tick)
    ways = seen_spread(works, rules, choices)[1]
    row = alone_row(ways, 0)
    if row is None:
        return True
    return tick <= len(row) and deaths(ways)[row[tick - 1]] is None


def last_with(row, good):
    """The last tick of a row, from 1, at which the place is a good one, 0 without."""
    return max([0] + [before + 1 for before, place in enumerate(row) if good[place]])


def last_save(works, rules, choices):
    """The last tick that saves, 0 without; None if the WORKS goes alone."""
    ways = seen_spread(works, rules, choices)[1]
    row = alone_row(ways, 0)
    if row is None:
        return None
    return last_with(row, [tick is None for tick in deaths(ways)])


def safe_choices(works, rules, choices):
    """The set of the choices that, taken now, leave a WORKS that can be kept."""
    ways = seen_spread(works, rules, choices)[1]
    return safe_in(ways[0], deaths(ways))


def saving_rows(works, rules, choices):
    """What safe_choices tells ahead of each tick of the run by 0, 0, .. till it is out."""
    ways = seen_spread(works, rules, choices)[1]
    row = alone_row(ways, 0)
    if row is None:
        return ()
    ticks = deaths(ways)
    return tuple([safe_in(ways[place], ticks) for place in row])


def first_mistake(works, rules, choices, takes):
    """The first tick at which a choice is taken that is not safe, though some are; None without."""
    need_choices(choices, takes)
    ways = seen_spread(works, rules, choices)[1]
    ticks = deaths(ways)
    place = 0
    for before, number in enumerate(takes):
        safe = safe_in(ways[place], ticks)
        if safe == ():
            return None
        if number not in safe:
            return before + 1
        place = ways[place][number]
    return None


def save_paper(works, rules, choices):
    """A SAVE PAPER for last_save."""
    last = last_save(works, rules, choices)
    if last is None:
        raise NoPaper()
    behind = behind_takes(works, rules, choices, (0,) * last)
    dead = death_list(behind, rules, choices)
    if last == 0:
        return (), dead
    ahead = behind_takes(works, rules, choices, (0,) * (last - 1))
    return kept_lot(ahead, rules, choices), dead


def alone_till(works, rules, choices, many):
    """The WORKS behind so many ticks by 0, 0, ..; None if the same is seen twice on the way, and never out."""
    row = rules_taken(rules, choices)[0]
    now = tupled(works)
    passed = {}
    for _ in range(many):
        seen = seen_in(now, 0)
        if seen in passed:
            return now if hot_chambers(now) == () else None
        passed[seen] = True
        now = tick_by(now, row)
    return now


def is_save_paper(works, rules, choices, tick, thing):
    """Whether thing is a SAVE PAPER for a tick."""
    if tick < 0:
        raise NoTick(tick)
    if not is_row(thing, 2):
        return False
    kept, dead = thing
    behind = alone_till(works, rules, choices, tick)
    # A WORKS that goes alone has no DEATH LIST.
    if behind is None or not is_death_list(behind, rules, choices, dead):
        return False
    if tick == 0:
        return isinstance(kept, tuple) and kept == ()
    return is_kept_lot(alone_till(works, rules, choices, tick - 1), rules, choices, kept)


def keeping(works, rules, choices):
    """A KEEPING."""
    ways = seen_spread(works, rules, choices)[1]
    ticks = deaths(ways)
    if ticks[0] is not None:
        raise NoPaper()
    numbers = []
    passed = {}
    place = 0
    while place not in passed:
        passed[place] = len(numbers)
        numbers.append(safe_in(ways[place], ticks)[0])
        place = ways[place][numbers[-1]]
    return tuple(numbers[:passed[place]]), tuple(numbers[passed[place]:])


def are_takes(choices, thing):
    """Whether thing is takes."""
    return isinstance(thing, tuple) and all([is_from(number, 0) and number < len(choices) for number in thing])


def is_keeping(works, rules, choices, thing):
    """Whether thing is a KEEPING."""
    if not is_row(thing, 2) or not all([are_takes(choices, takes) for takes in thing]) or thing[1] == ():
        return False
    lead, loop = thing
    own = tupled(works)
    now = seen_in(own, 0)
    seen = [now]
    rows = rules_taken(rules, choices)
    for number in lead + loop:
        now = seen_behind(own[0], now, rows[number])
        seen.append(now)
    # What is out stays out: a FIRE at the end was there all the way.
    return has_fire(own[0], now) and seen[len(lead)] == now


def can_go_alone(ways):
    """For each number whether it goes alone."""
    return [tick is None for tick in deaths([row[:1] for row in ways])]


def takes_to(place, befores):
    """The takes that lead to place, by a dict with the pair (number before, choice) for each."""
    takes = []
    while place in befores:
        place, number = befores[place]
        takes.append(number)
    return tuple(takes[::-1])


def rescue(works, rules, choices):
    """Of the RESCUES of fewest ticks the least."""
    ways = seen_spread(works, rules, choices)[1]
    alone = can_go_alone(ways)
    # Each is come to first by the least of its shortest takes, so they need not be kept one by one.
    befores = {}
    queue = [0]
    at = 0
    while at < len(queue):
        place = queue[at]
        if alone[place]:
            return takes_to(place, befores)
        for number, behind in enumerate(ways[place]):
            if behind != 0 and behind not in befores:
                befores[behind] = place, number
                queue.append(behind)
        at += 1
    raise NoPaper()


def is_rescue(works, rules, choices, thing):
    """Whether thing is a RESCUE."""
    if not are_takes(choices, thing):
        return False
    row = rules_taken(rules, choices)[0]
    behind = behind_takes(works, rules, choices, thing)
    seen = seen_in(behind, 0)
    passed = {}
    while has_fire(behind[0], seen):
        if seen in passed:
            return True
        passed[seen] = True
        if len(passed) > MOST_SEEN:
            raise TooMany()
        seen = seen_behind(behind[0], seen, row)
    return False


def have_rescue(ways):
    """For each number whether some takes lead from it to one that goes alone."""
    found = can_go_alone(ways)
    befores = ways_back(ways)
    queue = [place for place in range(len(ways)) if found[place]]
    at = 0
    while at < len(queue):
        place = queue[at]
        for before in befores[place]:
            if not found[before]:
                found[before] = True
                queue.append(before)
        at += 1
    return found


def last_rescue(works, rules, choices):
    """The last tick of the run by 0, 0, .. at which there is a RESCUE, 0 without; None if the WORKS goes alone."""
    ways = seen_spread(works, rules, choices)[1]
    row = alone_row(ways, 0)
    return None if row is None else last_with(row, have_rescue(ways))
