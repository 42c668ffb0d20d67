"""Two fires: how far they are apart, whether both stay for ever."""

from ringkiln.chambers import need_chamber
from ringkiln.draughts import draught_over, draughts_in
from ringkiln.errors import NoChamber, NoPaper, Unfit
from ringkiln.fires import fires_of
from ringkiln.rules import rows_by
from ringkiln.runs import fronts_in, rules_done
from ringkiln.shapes import COAL, HEAT, KINDLING, NOUGHTS, is_from, tupled
from ringkiln.steady import MOST_TICKS, followed, is_round_with, paper_of, settled, works_behind_ticks
from ringkiln.ticks import air_step, ticked


def apart_in(works):
    """By fronts ascending, how many CHAMBERS ahead the next front is."""
    fronts = fronts_in(works)
    many = len(works[1])
    nexts = fronts[1:] + fronts[:1]
    # A front alone is its own next one, once round the ring.
    return tuple([(ahead - front - 1) % many + 1 for front, ahead in zip(fronts, nexts)])


def apart(works):
    """By fronts ascending, how many CHAMBERS ahead the next front is."""
    return apart_in(tupled(works))


def apart_row(works, rules, many):
    """What apart tells behind 0, 1, .., many ticks."""
    return [apart_in(row) for row in rows_by(works, rules, many)]


def followed_two(works, rules):
    """The run, followed till there are fewer than two FIRES or it is seen again, turned."""
    return followed(tupled(works), tupled(rules), 2, True)


def stay_two(works, rules):
    """Whether there are always two FIRES or more."""
    return followed_two(works, rules)[1] is not None


def pair_paper(works, rules):
    """The first STEADY PAPER, where there are always two FIRES or more."""
    rows, start = followed_two(works, rules)
    if start is None:
        raise NoPaper()
    return paper_of(rows, start)


def is_pair_paper(works, rules, thing):
    """Whether thing is a PAIR PAPER."""
    return is_round_with(works, rules, 2, thing)


def lone_paper(works, rules):
    """The least LONE PAPER."""
    rows, start = followed_two(works, rules)
    if start is not None:
        raise NoPaper()
    return len(rows) - 1


def is_lone_paper(works, rules, thing):
    """Whether thing is a LONE PAPER."""
    if not is_from(thing, 0) or thing > MOST_TICKS:
        return False
    return len(fires_of(works_behind_ticks(tupled(works), tupled(rules), thing))) < 2


def has_met(works, before):
    """Whether some FIRE has CHAMBERS of two FIRES of the WORKS one tick before."""
    fires = fires_of(before)
    for fire in fires_of(works):
        if len([old for old in fires if any([number in old for number in fire])]) > 1:
            return True
    return False


def how_lone(works, rules):
    """Whether there are fewer than two FIRES from the first ("ahead"), two "met", one is "gone"; or None."""
    rows, start = followed_two(works, rules)
    if start is not None:
        return None
    if len(rows) == 1:
        return "ahead"
    return "met" if has_met(rows[-1], rows[-2]) else "gone"


def nearest_ever(works, rules):
    """The least number of CHAMBERS that two fronts ever are apart, or None."""
    found = [apart_in(row) for row in settled(works, rules)[0]]
    nearest = [min(row) for row in found if len(row) > 1]
    return min(nearest) if nearest != [] else None


def fires_for_ever(works, rules):
    """The set of the numbers of FIRES that are there behind infinitely many numbers of ticks."""
    rows, start = settled(works, rules)
    if start is None:
        return (0,)
    many = [len(fires_of(row)) for row in rows[start:]]
    return tuple([number for number in range(max(many) + 1) if number in many])


def one_draught(works, one, two):
    """Whether two CHAMBERS lie in one DRAUGHT."""
    chambers = tupled(works)[1]
    need_chamber(chambers, one)
    need_chamber(chambers, two)
    row = draught_over(chambers, one)
    return row is not None and two in row


def starved_in(works):
    """The CHAMBERS, ascending, of DRAUGHTS with heat to burn in step 5 and no coal; WORKS behind step 2."""
    draughts = draughts_in(works[1])
    bound = works[0][KINDLING]
    chambers = air_step(works, draughts)[1]
    aired = sorted([number for row in draughts for number in row])
    return [number for number in aired if chambers[number][HEAT] >= bound and chambers[number][COAL] == ()]


def starved_row(works, rules, many):
    """The pairs (tick, number) of CHAMBERS in DRAUGHTS with heat to burn and no coal, ascending."""
    now = tupled(works)
    own_rules = tupled(rules)
    found = []
    for tick in range(1, many + 1):
        halfway = rules_done(now, own_rules)[0]
        found.extend([(tick, number) for number in starved_in(halfway)])
        now = ticked(halfway, False)
    return found


def works_laid(make, pattern, filler, many, places):
    """The WORKS laid with pattern at these places, none sharing a CHAMBER."""
    chambers = [filler] * many
    for place in places:
        for steps, chamber in enumerate(pattern):
            chambers[(place + steps) % many] = chamber
    return make, tuple(chambers), NOUGHTS


def do_share(pattern, many, far):
    """Whether pattern at 0 and at far share a CHAMBER, or one of them does with itself."""
    return len(pattern) > far or far + len(pattern) > many


def pair_works(make, pattern, filler, many, far):
    """The WORKS laid with pattern at 0 and at far."""
    if far < 0 or far >= many:
        raise NoChamber(far)
    if do_share(pattern, many, far):
        raise Unfit()
    return works_laid(tupled(make), tupled(pattern), tupled(filler), many, (0, far))


def fars_that_stay(make, pattern, filler, many, rules):
    """The set of all far, without error, with which there are always two FIRES or more."""
    fars = [far for far in range(many) if not do_share(pattern, many, far)]
    return tuple([far for far in fars if stay_two(pair_works(make, pattern, filler, many, far), rules)])


def most_fires(make, pattern, filler, many, rules):
    """The greatest number of patterns, laid evenly, with which there are never fewer FIRES than these."""
    own = tupled(pattern)
    own_rules = tupled(rules)
    for number in range(many, 0, -1):
        if many % number == 0 and number * len(own) <= many:
            places = list(range(0, many, many // number))
            laid = works_laid(tupled(make), own, tupled(filler), many, places)
            if followed(laid, own_rules, number, True)[1] is not None:
                return number
    return 0
