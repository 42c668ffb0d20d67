"""CLAIMS, and one judge for all PAPERS."""

from ringkiln.back import guesses_that_fit, is_fault, is_misfit, misfit
from ringkiln.chambers import is_works
from ringkiln.deeds import is_told
from ringkiln.errors import NoPaper, NoWord, Unfit
from ringkiln.keeping import are_choices, death_list, is_death_list, is_kept_lot, kept_lot
from ringkiln.looks import is_look, is_looks_doubt, is_looks_plan, looks_doubt, looks_plan
from ringkiln.pairs import is_lone_paper, is_pair_paper, lone_paper, pair_paper
from ringkiln.repairs import is_no_repair, is_repair, no_repair, repair_at
from ringkiln.rules import is_act_of, is_rules
from ringkiln.shapes import is_from, is_number, is_row, replaced, same, tupled
from ringkiln.starts import is_start, is_start_paper, least_wood, start_paper
from ringkiln.steady import is_out_paper, is_steady_paper, out_paper, steady_paper

# The words, and how many things a CLAIM of each has.
LENGTHS = {"steady": 3, "two": 3, "kept": 4, "fits": 4, "looks": 6, "repair": 6, "start": 6}
RULES_AT = 2


def is_number_of(many, thing):
    """Whether thing is a number below many, from 0."""
    return is_from(thing, 0) and thing < many


def are_deeds_of(works, thing):
    """Whether thing is told DEEDS that name CHAMBERS and KINDS of a WORKS alone."""
    if not is_told(thing):
        return False
    make, chambers, _ = works
    return all([deed[1] < len(chambers) and is_act_of(make, deed[:1] + deed[2:]) for _, deed in thing])


def is_ruled_works(works, rules):
    """Whether both are a WORKS and RULES for it."""
    return is_works(works) and is_rules(works[0], rules)


def are_choices_of(make, thing):
    """Whether thing is CHOICES whose GREEN names KINDS of make alone."""
    return are_choices(thing) and all([is_act_of(make, act) for choice in thing for _, act in choice])


def is_play(thing):
    """Whether thing is a PLAY."""
    if not is_row(thing, 4):
        return False
    works, rules, told, many = thing
    return is_ruled_works(works, rules) and are_deeds_of(works, told) and is_from(many, 1)


def are_faults(many, thing):
    """Whether thing is a tuple, not (), of FAULTS of many CHAMBERS, or None."""
    if not isinstance(thing, tuple) or thing == ():
        return False
    return all([fault is None or is_fault(many, fault) for fault in thing])


def are_heats(thing):
    """Whether thing is a set, not (), of heats."""
    if not isinstance(thing, tuple) or thing == () or not all([is_from(heat, 0) for heat in thing]):
        return False
    return all([one < other for one, other in zip(thing, thing[1:])])


def is_unknown(many, thing):
    """Whether thing is an UNKNOWN of many CHAMBERS."""
    if not is_row(thing, 2) or not isinstance(thing[0], tuple):
        return False
    begun, faults = thing
    if not all([is_row(pair, 2) and is_number_of(many, pair[0]) and are_heats(pair[1]) for pair in begun]):
        return False
    numbers = [number for number, _ in begun]
    return all([numbers.index(number) == place for place, number in enumerate(numbers)]) and are_faults(many, faults)


def are_readings(many, thing):
    """Whether thing is READINGS of many CHAMBERS."""
    if not isinstance(thing, tuple):
        return False
    return all([is_row(pair, 2) and is_number_of(many, pair[0]) and is_from(pair[1], 0) for pair in thing])


def are_cases(thing):
    """Whether thing is a tuple, not (), of CASES of as many CHAMBERS."""
    if not isinstance(thing, tuple) or thing == ():
        return False
    if not all([is_row(case, 2) and is_works(case[0]) for case in thing]):
        return False
    many = len(thing[0][0][1])
    return all([len(works[1]) == many and are_faults(many, (fault,)) for works, fault in thing])


def is_fits_claim(claim):
    """Whether a tuple of as many things is a "fits" CLAIM."""
    _, play, unknown, readings = claim
    if not is_play(play):
        return False
    many = len(play[0][1])
    return is_unknown(many, unknown) and are_readings(many, readings)


def is_looks_claim(claim):
    """Whether a tuple of as many things is a "looks" CLAIM."""
    _, cases, rules, told, looks, most = claim
    if not are_cases(cases) or not isinstance(looks, tuple) or not is_from(most, 0):
        return False
    if not all([is_rules(works[0], rules) and are_deeds_of(works, told) for works, _ in cases]):
        return False
    return all([is_look(look, len(cases[0][0][1])) for look in looks])


def is_claim(thing):
    """Whether thing is a CLAIM."""
    if not isinstance(thing, tuple) or thing == () or not isinstance(thing[0], str):
        return False
    word = thing[0]
    if word not in LENGTHS or len(thing) != LENGTHS[word]:
        return False
    if word == "fits":
        return is_fits_claim(thing)
    if word == "looks":
        return is_looks_claim(thing)
    works = thing[1]
    if not is_ruled_works(works, thing[RULES_AT]):
        return False
    if word == "kept":
        return are_choices_of(works[0], thing[3])
    if word in ("steady", "two"):
        return True
    number, one, other = thing[3:]
    if not is_number_of(len(works[1]), number):
        return False
    if word == "repair":
        return is_from(one, 1) and is_number(other) and one <= other
    return is_from(one, 1) and is_from(other, 0)


def need_claim(claim):
    """The CLAIM as a tuple; NoWord or Unfit if it is none by its word or its count."""
    own = tupled(claim)
    if own[0] not in LENGTHS:
        raise NoWord(own[0])
    if len(own) != LENGTHS[own[0]]:
        raise Unfit()
    return own


def found_for(claim):
    """A PAPER that a CLAIM, a tuple, is so; NoPaper if it is not."""
    word, first, second = claim[:3]
    rest = claim[3:]
    if word == "steady":
        return steady_paper(first, second)
    if word == "two":
        return pair_paper(first, second)
    if word == "kept":
        return kept_lot(first, second, rest[0])
    if word == "fits":
        fitting = guesses_that_fit(first, second, rest[0])
        if fitting == ():
            raise NoPaper()
        return fitting[0]
    if word == "looks":
        return looks_plan(first, second, rest[0], rest[1], rest[2])
    if word == "repair":
        return repair_at(first, second, rest[0], rest[1], rest[2])
    return rest[0], (least_wood(first, second, rest[0], rest[1], rest[2]),)


def found_against(claim):
    """A PAPER that a CLAIM, a tuple, is not so; NoPaper if it is."""
    word, first, second = claim[:3]
    rest = claim[3:]
    if word == "steady":
        return out_paper(first, second)
    if word == "two":
        return lone_paper(first, second)
    if word == "kept":
        return death_list(first, second, rest[0])
    if word == "fits":
        return misfit(first, second, rest[0])
    if word == "looks":
        return looks_doubt(first, second, rest[0], rest[1], rest[2])
    if word == "repair":
        return no_repair(first, second, rest[0], rest[1], rest[2])
    return start_paper(first, second, rest[0], rest[1], rest[2])


def is_wood_start(claim, thing):
    """Whether thing is a START that shows a "start" CLAIM, a tuple."""
    _, works, rules, number, many, most = claim
    if not is_start(works, rules, many, thing) or thing[0] != number:
        return False
    return len(thing[1]) == 1 and thing[1][0] <= most


def does_show(claim, thing):
    """Whether thing is a PAPER that a CLAIM, a tuple, is so."""
    word, first, second = claim[:3]
    rest = claim[3:]
    if word == "steady":
        return is_steady_paper(first, second, thing)
    if word == "two":
        return is_pair_paper(first, second, thing)
    if word == "kept":
        return is_kept_lot(first, second, rest[0], thing)
    if word == "fits":
        return any([same(guess, thing) for guess in guesses_that_fit(first, second, rest[0])])
    if word == "looks":
        return is_looks_plan(first, second, rest[0], rest[1], rest[2], thing)
    if word == "repair":
        return is_repair(first, second, rest[0], rest[1], rest[2], thing)
    return is_wood_start(claim, thing)


def does_refute(claim, thing):
    """Whether thing is a PAPER that a CLAIM, a tuple, is not so."""
    word, first, second = claim[:3]
    rest = claim[3:]
    if word == "steady":
        return is_out_paper(first, second, thing)
    if word == "two":
        return is_lone_paper(first, second, thing)
    if word == "kept":
        return is_death_list(first, second, rest[0], thing)
    if word == "fits":
        return is_misfit(first, second, rest[0], thing)
    if word == "looks":
        return is_looks_doubt(first, second, rest[0], rest[1], rest[2], thing)
    if word == "repair":
        return is_no_repair(first, second, rest[0], rest[1], rest[2], thing)
    return is_start_paper(first, second, rest[0], rest[1], rest[2], thing)


def is_so(claim):
    """Whether a CLAIM is so."""
    own = need_claim(claim)
    try:
        found_for(own)
    except NoPaper:
        return False
    return True


def paper(claim):
    """A PAPER that a CLAIM is so, or that it is not."""
    own = need_claim(claim)
    try:
        found = found_for(own)
    except NoPaper:
        found = found_against(own)
    return found


def shows(claim, thing):
    """True if thing is a PAPER and the CLAIM so, False if it is one and the CLAIM not so, None if it is none."""
    own = need_claim(claim)
    if does_show(own, thing):
        return True
    return False if does_refute(own, thing) else None


def is_paper(claim, thing):
    """Whether thing is a PAPER of a CLAIM."""
    return shows(claim, thing) is not None


def about(claim, rules):
    """The CLAIM with these RULES in the place of its own."""
    own = need_claim(claim)
    if own[0] == "fits":
        raise Unfit()
    return replaced(own, RULES_AT, tupled(rules))


def not_so(claims):
    """The set of the numbers of the CLAIMS that are not so."""
    return tuple([number for number, claim in enumerate(claims) if not is_so(claim)])


def is_turned(claim, rules):
    """Whether one of a CLAIM and the CLAIM about these RULES is so, the other not."""
    own = need_claim(claim)
    return own[0] != "fits" and is_so(own) != is_so(about(own, rules))


def turned_by(claims, rules):
    """The set of the numbers of the CLAIMS of which these RULES make one that is so not so, or the other way."""
    return tuple([number for number, claim in enumerate(claims) if is_turned(claim, rules)])
