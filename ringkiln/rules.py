"""RULES held against one another: which are used, which clash, which may be left out."""

from ringkiln.deeds import is_act, part_touched
from ringkiln.errors import NoRule
from ringkiln.runs import nothing_barred, rows_of_run, rules_done, rules_used, tick_by
from ringkiln.shapes import KINDS, is_from, is_number, is_row, number_sets, tupled


def is_test(thing):
    """Whether thing is a TEST."""
    if not isinstance(thing, tuple) or thing == ():
        return False
    word = thing[0]
    if word in ("empty", "set", "slag"):
        return len(thing) == 1
    if len(thing) != 2:
        return False
    if word in ("below", "from", "pieces"):
        return is_from(thing[1], 0)
    return word in ("wicket", "damper", "screen") and isinstance(thing[1], bool)


def is_act_of(make, thing):
    """Whether thing is an ACT whose GREEN, if it has one, names KINDS of make alone."""
    if not is_act(thing):
        return False
    return thing[0] != "set" or all([kind < len(make[KINDS]) for kind, _ in thing[1]])


def is_rule(make, thing):
    """Whether thing is a RULE whose GREEN, if it has one, names KINDS of make alone."""
    if not is_row(thing, 3):
        return False
    place, when, act = thing
    if not is_number(place) or not isinstance(when, tuple):
        return False
    return all([is_test(test) for test in when]) and is_act_of(make, act)


def is_rules(make, thing):
    """Whether thing is RULES whose GREEN names KINDS of make alone."""
    return isinstance(thing, tuple) and all([is_rule(make, rule) for rule in thing])


def need_rule(number, many):
    """Raise NoRule if number is not below many."""
    if number < 0 or number >= many:
        raise NoRule(number)


def acts_now(works, rules):
    """The DEEDS that rules do at a WORKS as it stands."""
    return rules_done(tupled(works), tupled(rules))[1]


def ruled(works, rules):
    """The WORKS behind what rules do, without a tick."""
    return rules_done(tupled(works), tupled(rules))[0]


def rows_by(works, rules, many):
    """The list of the WORKS behind 0, 1, .., many ticks by rules alone."""
    return rows_of_run(works, rules, (), (), many)


def run_by(works, rules, many):
    """The WORKS behind the run by rules."""
    return rows_by(works, rules, many)[-1]


def uses(works, rules, many):
    """Tick by tick of the run by rules the list of the pairs (RULE's number, DEED) that are done."""
    own_rules = tupled(rules)
    return [rules_used(row, own_rules, nothing_barred)[1] for row in rows_by(works, rules, many)[:many]]


def used_at(works, rules, many, number):
    """The ticks in which the RULE of number is used."""
    need_rule(number, len(rules))
    ticks = []
    for before, used in enumerate(uses(works, rules, many)):
        if number in [own for own, _ in used]:
            ticks.append(before + 1)
    return tuple(ticks)


def never_used(works, rules, many):
    """The set of the numbers of RULES that are used in no tick."""
    used = [number for row in uses(works, rules, many) for number, _ in row]
    return tuple([number for number in range(len(rules)) if number not in used])


def without_rule(rules, number):
    """The RULES without the one of number."""
    own = tupled(rules)
    need_rule(number, len(own))
    return own[:number] + own[number + 1:]


def with_rule(rules, number, rule):
    """The RULES with rule put in so that it has this number."""
    own = tupled(rules)
    need_rule(number, len(own) + 1)
    return own[:number] + (tupled(rule),) + own[number:]


def do_clash(one, other):
    """Whether two DEEDS done in one tick clash."""
    part = part_touched(one)
    if part[0] not in ("wicket", "damper", "screen") or part != part_touched(other):
        return False
    # Two that brick up, or two that open, do not clash: something between them does with both.
    return part[0] != "wicket" or one[0] != other[0]


def clash_of(works, rules, many):
    """The least triple (tick, number, later) of RULES whose acts clash, or None."""
    for before, used in enumerate(uses(works, rules, many)):
        pairs = [(one, other) for place, one in enumerate(used) for other in used[place + 1:]]
        found = [(one[0], other[0]) for one, other in pairs if do_clash(one[1], other[1])]
        if found != []:
            number, later = min(found)
            return before + 1, number, later
    return None


def first_unlike(works, rules, other, many):
    """The least tick behind which the WORKS by two RULES are not the same, or None."""
    one = two = tupled(works)
    own_rules = tupled(rules)
    other_rules = tupled(other)
    for tick in range(1, many + 1):
        one = tick_by(one, own_rules)
        two = tick_by(two, other_rules)
        if one != two:
            return tick
    return None


def lean_rules(works, rules, many):
    """The least set of numbers of RULES that alone have behind each tick the same WORKS."""
    # The last of the sets has all numbers, so that one is found.
    for numbers in number_sets(len(rules)):
        if first_unlike(works, rules, [rules[number] for number in numbers], many) is None:
            return numbers
    return None


def needless_tests(works, rules, many, number):
    """The set of the numbers of TESTS of a RULE without each of which the WORKS are the same."""
    own = tupled(rules)
    need_rule(number, len(own))
    place, when, act = own[number]
    found = []
    for test in range(len(when)):
        rule = (place, when[:test] + when[test + 1:], act)
        if first_unlike(works, own, own[:number] + (rule,) + own[number + 1:], many) is None:
            found.append(test)
    return tuple(found)
