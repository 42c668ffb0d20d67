"""Keeping a fire by choices: the lot that can be kept, and the ticks within which the rest dies."""

from ringkiln.chambers import is_chamber, load_seen, seen_in
from ringkiln.deeds import is_act
from ringkiln.errors import NoChoice, NoPaper, TooMany, Unfit
from ringkiln.runs import hot_chambers, tick_by
from ringkiln.shapes import HEAT, KINDLING, NOUGHTS, is_from, is_number, is_row, number_sets, tupled

MOST_SEEN = 4000


def need_choice(choices, number):
    """Raise NoChoice if number is not that of one of the choices."""
    if number < 0 or number >= len(choices):
        raise NoChoice(number)


def is_choice(thing):
    """Whether thing is a tuple of pairs (place, act)."""
    if not isinstance(thing, tuple):
        return False
    return all([is_row(pair, 2) and is_number(pair[0]) and is_act(pair[1]) for pair in thing])


def are_choices(thing):
    """Whether thing is CHOICES."""
    return isinstance(thing, tuple) and thing != () and all([is_choice(choice) for choice in thing])


def rules_taken(rules, choices):
    """For each choice the RULES, tuples, that do in a tick what it and then rules do."""
    own = tupled(rules)
    return [tuple([(place, (), act) for place, act in choice]) + own for choice in tupled(choices)]


def chosen_tick(works, rules, choices, number):
    """The WORKS behind a tick in which the choice of number is taken."""
    need_choice(choices, number)
    return tick_by(tupled(works), rules_taken(rules, choices)[number])


def seen_of(works):
    """What is seen of a WORKS."""
    return seen_in(tupled(works), 0)


def works_of(make, seen):
    """A WORKS of which this is seen."""
    chambers = [(load, heat, 0, coal, wicket, damper, screen) for load, heat, coal, wicket, damper, screen in seen]
    return make, tuple(chambers), NOUGHTS


def seen_behind(make, seen, rules):
    """What is seen behind a tick by rules, from what is seen ahead of it."""
    return seen_in(tick_by(works_of(make, seen), rules), 0)


def has_fire(make, seen):
    """Whether there is a FIRE in what is seen."""
    return any([chamber[HEAT] >= make[KINDLING] for chamber in seen])


def all_behind(make, seen, rows):
    """What is seen behind a tick by each of several RULES, nothing if what is seen is out."""
    if not has_fire(make, seen):
        return []
    return [seen_behind(make, seen, rules) for rules in rows]


def spread(first, steps):
    """The pair of lists (all that comes of first, in order; for each the numbers of what comes of it).

    steps tells what comes of one, one after another: nothing where it is out.
    """
    lot = [first]
    places = {first: 0}
    ways = []
    burning = 0
    while len(ways) < len(lot):
        row = []
        own = lot[len(ways)]
        for behind in steps(own):
            if behind not in places:
                places[behind] = len(lot)
                lot.append(behind)
            row.append(places[behind])
        if row != []:
            burning += 1
        if burning > MOST_SEEN:
            raise TooMany()
        ways.append(tuple(row))
    return lot, ways


def seen_spread(works, rules, choices):
    """The pair of lists (all that can be seen, in order; for each the numbers of what the choices lead to)."""
    own = tupled(works)
    make = own[0]
    rows = rules_taken(rules, choices)
    return spread(seen_in(own, 0), lambda seen: all_behind(make, seen, rows))


def ways_back(ways):
    """For each number the list of those from which it is led to, as often as it is."""
    befores = [[] for _ in ways]
    for place, row in enumerate(ways):
        for behind in row:
            befores[behind].append(place)
    return befores


def deaths(ways):
    """For each number within how many ticks it is out, whatever is taken; None if it can be kept."""
    befores = ways_back(ways)
    left = [len(row) for row in ways]
    ticks = [0 if row == () else None for row in ways]
    queue = [place for place, row in enumerate(ways) if row == ()]
    at = 0
    while at < len(queue):
        place = queue[at]
        for before in befores[place]:
            left[before] -= 1
            if left[before] == 0:
                ticks[before] = 1 + max([ticks[behind] for behind in ways[before]])
                queue.append(before)
        at += 1
    return ticks


def safe_in(row, ticks):
    """The set of the choices of which this row leads to one that can be kept."""
    return tuple([number for number, behind in enumerate(row) if ticks[behind] is None])


def can_keep(works, rules, choices):
    """Whether a WORKS can be kept."""
    return deaths(seen_spread(works, rules, choices)[1])[0] is None


def kept_lot(works, rules, choices):
    """The KEPT LOT of all that can be seen and be kept."""
    lot, ways = seen_spread(works, rules, choices)
    ticks = deaths(ways)
    if ticks[0] is not None:
        raise NoPaper()
    kept = [place for place, tick in enumerate(ticks) if tick is None]
    return tuple([(lot[place], safe_in(ways[place], ticks)[0]) for place in kept])


def is_seen(make, many, thing):
    """Whether thing can be what is seen of a WORKS of make with so many CHAMBERS."""
    if not is_row(thing, many) or not all([is_row(part, 6) for part in thing]):
        return False
    for part in thing:
        if not is_chamber(make, part[:2] + (0,) + part[2:]) or load_seen(make, part[0]) != part[0]:
            return False
    return True


def are_seen_pairs(works, thing, least):
    """Whether thing is a tuple of pairs (seen with a FIRE, number from least) for WORKS like this one."""
    make, chambers, _ = works
    if not isinstance(thing, tuple):
        return False
    for pair in thing:
        if not is_row(pair, 2) or not is_seen(make, len(chambers), pair[0]) or not is_from(pair[1], least):
            return False
    return all([has_fire(make, seen) for seen, _ in thing])


def pairs_table(works, thing, least):
    """A dict of pairs (seen with a FIRE, number from least), that of works among them; None if thing is none."""
    if not are_seen_pairs(works, thing, least):
        return None
    table = {seen: number for seen, number in thing}
    # Fewer of them than pairs: the same is seen in two.
    if len(table) < len(thing) or seen_in(works, 0) not in table:
        return None
    return table


def is_kept_lot(works, rules, choices, thing):
    """Whether thing is a KEPT LOT."""
    own = tupled(works)
    rows = rules_taken(rules, choices)
    table = pairs_table(own, thing, 0)
    if table is None:
        return False
    for seen, number in thing:
        if number >= len(rows) or seen_behind(own[0], seen, rows[number]) not in table:
            return False
    return True


def kept_by(works, rules, choices, lot, many):
    """The WORKS behind many ticks with what a KEPT LOT takes."""
    own_lot = tupled(lot)
    if not is_kept_lot(works, rules, choices, own_lot):
        raise Unfit()
    now = tupled(works)
    rows = rules_taken(rules, choices)
    table = {seen: number for seen, number in own_lot}
    for _ in range(many):
        now = tick_by(now, rows[table[seen_in(now, 0)]])
    return now


def dies_within(works, rules, choices):
    """The least number of ticks behind which a WORKS is out, whatever is taken; None if it can be kept."""
    return deaths(seen_spread(works, rules, choices)[1])[0]


def death_list(works, rules, choices):
    """The DEATH LIST of all that can be seen and have a FIRE."""
    lot, ways = seen_spread(works, rules, choices)
    ticks = deaths(ways)
    if ticks[0] is None:
        raise NoPaper()
    return tuple([(seen, tick) for seen, tick in zip(lot, ticks) if tick != 0])


def is_death_of(make, seen, rows, table):
    """Whether this one of a DEATH LIST is out behind each tick, or one with fewer ticks comes."""
    for rules in rows:
        behind = seen_behind(make, seen, rules)
        if has_fire(make, behind) and (behind not in table or table[behind] >= table[seen]):
            return False
    return True


def is_death_list(works, rules, choices, thing):
    """Whether thing is a DEATH LIST."""
    own = tupled(works)
    if hot_chambers(own) == ():
        return isinstance(thing, tuple) and thing == ()
    rows = rules_taken(rules, choices)
    table = pairs_table(own, thing, 1)
    if table is None:
        return False
    return all([is_death_of(own[0], seen, rows, table) for seen, _ in thing])


def best_in(row, ticks):
    """The best choice of a row: that leads to one that can be kept, or else dies last; None if it is out."""
    if row == ():
        return None
    if safe_in(row, ticks) != ():
        return safe_in(row, ticks)[0]
    left = [ticks[behind] for behind in row]
    return left.index(max(left))


def best_choice(works, rules, choices):
    """The least number of the best choices; None if the WORKS is out."""
    ways = seen_spread(works, rules, choices)[1]
    return best_in(ways[0], deaths(ways))


def best_row(works, rules, choices, many):
    """The best numbers tick by tick, for many ticks or until the WORKS is out."""
    ways = seen_spread(works, rules, choices)[1]
    ticks = deaths(ways)
    place = 0
    numbers = []
    while len(numbers) < many and ways[place] != ():
        number = best_in(ways[place], ticks)
        numbers.append(number)
        place = ways[place][number]
    return tuple(numbers)


def least_choices(works, rules, choices):
    """The least set of choices by which alone a WORKS can be kept."""
    ways = seen_spread(works, rules, choices)[1]
    for numbers in number_sets(len(choices))[1:]:
        taken = [tuple([row[number] for number in numbers if row != ()]) for row in ways]
        if deaths(taken)[0] is None:
            return numbers
    raise NoPaper()
