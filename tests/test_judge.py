"""judge.py: [23]. What a CLAIM says is played out by the second reading; PAPERS are judged apart from the package."""

import unittest

from ringkiln.judge import about, is_claim, is_paper, is_so, not_so, paper, shows, turned_by
from tests import oracle
from tests.graphs import choice_graph, kept_in, plain_is_death, plain_is_kept, small_choices, small_rules, small_works
from tests.support import (NOUGHTS, Numbers, answer, kept, listed, lively_rules, lively_works, raised, some_rules,
                           some_works, strictly)
from tests.test_back import part, plain_guesses, some_play, some_readings, some_unknown, top_of, works_of
from tests.test_looks import has_plan, is_doubt, is_plan, some_cases, table_of
from tests.test_repairs import plain_cost
from tests.test_repairs import some_case as repair_case
from tests.test_starts import fails
from tests.test_starts import some_case as start_case

LENGTHS = {"steady": 3, "two": 3, "kept": 4, "fits": 4, "looks": 6, "repair": 6, "start": 6}
CRAFT = (((900, 1, 900),), 0, 4, 4, 900, 4)
LIT, COLD, DEAD = (None, 8, 0, (), True, True, True), (None, 0, 0, (), False, False, True), (None, 0, 0, (), True, True, True)
STOVE, ASH = (CRAFT, (LIT, COLD, COLD), NOUGHTS), (CRAFT, (DEAD, COLD, COLD), NOUGHTS)
FUEL = ((0, (("pieces", 1),), ("coal", (6,))),)
PLAY = (STOVE, FUEL, ((1, ("open", 1)), (3, ("set", 2, ((0, 5),)))), 3)
UNKNOWN = (((0, (7, 9)), (2, (1,))), (None, ("damp", 2)))
LOOKS = (("heat", 1, 0), ("flue", 2))
# One of each word that is so, one that is not.
SO = (("steady", STOVE, FUEL), ("two", (CRAFT, (LIT, COLD) * 2, NOUGHTS), FUEL), ("kept", STOVE, (), ((), ((0, ("coal", (6,))),))),
      ("fits", PLAY, UNKNOWN, ()), ("looks", ((STOVE, None), (STOVE, ("damp", 0))), FUEL, (), LOOKS, 1),
      ("repair", STOVE, FUEL, 1, 2, 4), ("start", ASH, FUEL, 0, 5, 7))
NOT_SO = (("steady", STOVE, ()), ("two", STOVE, FUEL), ("kept", STOVE, (), ((), ((0, ("brick",)),))),
          ("fits", PLAY, UNKNOWN, ((2, 5), (0, 99))), ("looks", ((STOVE, None), (STOVE, ("damp", 0))), (), (), LOOKS, 1),
          ("repair", STOVE, FUEL, 0, 2, 4), ("start", ASH, FUEL, 0, 5, 6))


def run_end(works, rules, least):
    """The rows of a run till there are fewer FIRES than least or it is seen again, turned, and which; None if neither."""
    rows = [works]
    seen = {oracle.seen(works)}
    while len(rows) < 200:
        if len(oracle.fires(rows[-1])) < least or oracle.is_out(rows[-1]):
            return rows, False
        rows.append(oracle.tick(rows[-1], rules))
        if any(oracle.seen(rows[-1], number) in seen for number in range(len(works[1]))):
            while len(rows) < 90 and len(oracle.fires(rows[-1])) >= least and not oracle.is_out(rows[-1]):
                rows.append(oracle.tick(rows[-1], rules))
            return rows, len(oracle.fires(rows[-1])) >= least and not oracle.is_out(rows[-1])
        seen.add(oracle.seen(rows[-1]))
    return None


def is_round(rows, least, thing):
    """Whether a triple is a STEADY PAPER, or a PAIR PAPER, by the rows of the run."""
    tick, long, turning = thing
    return (oracle.seen(rows[tick + long], turning) == oracle.seen(rows[tick])
            and all(not oracle.is_out(row) and len(oracle.fires(row)) >= least for row in rows[:tick + long + 1]))


def is_right(claim, thing):
    """Whether thing, of the right form, shows a CLAIM that is so, by the second reading."""
    word = claim[0]
    if word in ("steady", "two"):
        tick, long, _ = thing
        return is_round(oracle.rows_by(claim[1], claim[2], tick + long), 1 + (word == "two"), thing)
    if word == "kept":
        return plain_is_kept(*claim[1:], thing)
    if word == "fits":
        rows = plain_guesses(*claim[1:3])[thing]
        return all(top_of(rows, number) == top for number, top in claim[3])
    if word == "looks":
        cases, rules, told, looks, most = claim[1:]
        return is_plan(table_of(cases, rules, told, looks), looks, set(range(len(cases))), most, 1, thing)
    if word == "repair":
        works, rules, number, long, many = claim[1:]
        return 1 <= thing <= many - long + 1 and plain_cost(works, rules, (number, thing, long), many) is None
    works, rules, number, many, most = claim[1:]
    return thing[0] == number and len(thing[1]) == 1 and thing[1][0] <= most and fails(works, rules, *thing, many) is None


def is_against(claim, thing):
    """Whether thing, of the right form, shows that a CLAIM is not so, by the second reading."""
    word = claim[0]
    if word in ("steady", "two"):
        row = oracle.rows_by(claim[1], claim[2], thing)[-1]
        return oracle.is_out(row) or word == "two" and len(oracle.fires(row)) < 2
    if word == "kept":
        return plain_is_death(*claim[1:], thing)
    if word == "fits":
        runs = list(plain_guesses(*claim[1:3]).values())
        return len(thing) == len(runs) and all(top_of(rows, claim[3][number][0]) != claim[3][number][1]
                                               for number, rows in zip(thing, runs))
    if word == "looks":
        cases, rules, told, looks, most = claim[1:]
        return is_doubt(table_of(cases, rules, told, looks), looks, set(range(len(cases))), most, 1, thing)
    if word == "repair":
        works, rules, number, long, many = claim[1:]
        costs = [plain_cost(works, rules, (number, first, long), many) for first in range(1, many - long + 2)]
        return None not in costs and tuple(costs) == thing
    works, rules, number, many, most = claim[1:]
    ticks = [fails(works, rules, number, (wood,), many) for wood in range(most + 1)]
    return None not in ticks and tuple(ticks) == thing


def run_claims(seed):
    """CLAIMS of runs, with whether they are so."""
    if seed % 3:
        works, rules = lively_works(seed), lively_rules(seed)
    else:
        works = some_works(seed)
        rules = some_rules(seed, works[0])
    for word, least in (("steady", 1), ("two", 2)):
        end = run_end(works, rules, least)
        if end is not None:
            yield (word, works, rules), end[1]


def other_claims(seed):
    """CLAIMS of the other words, with whether they are so."""
    numbers = Numbers(seed * 67 + 2)
    works = small_works(seed)
    rules, choices = small_rules(seed, works[0]), small_choices(seed, works[0])
    graph = choice_graph(works, rules, choices)
    if graph is not None:
        yield ("kept", works, rules, choices), oracle.seen(works) in kept_in(graph)
    play = some_play(seed)
    unknown = some_unknown(seed, play[0])
    runs = plain_guesses(play, unknown)
    readings = some_readings(seed, play[0], runs) + ((numbers.below(3), numbers.below(30)),) * numbers.below(2)
    yield ("fits", play, unknown, readings), any(all(top_of(rows, number) == top for number, top in readings)
                                                 for rows in runs.values())
    cases, rules, told, looks = some_cases(seed)
    table = table_of(cases, rules, told, looks)
    most = numbers.below(4)
    yield ("looks", cases, rules, told, looks, most), has_plan(table, looks, set(range(len(cases))), most, 1)
    works, rules, many = repair_case(seed)
    number, long = numbers.below(len(works[1])), 1 + numbers.below(many)
    yield ("repair", works, rules, number, long, many), any(
        plain_cost(works, rules, (number, first, long), many) is None for first in range(1, many - long + 2))
    works, rules, many = start_case(seed)
    number, most = numbers.below(len(works[1])), numbers.below(20)
    yield ("start", works, rules, number, many, most), any(
        fails(works, rules, number, (wood,), many) is None for wood in range(most + 1))


def all_claims(many):
    for seed in range(many):
        yield from run_claims(seed)
        yield from other_claims(seed)


class Claims(unittest.TestCase):
    def test_each_is_so_or_not_and_has_its_paper(self):
        seen = {}
        for claim, expected in all_claims(110):
            self.assertIs(is_claim(claim), True, claim[0])
            self.assertIs(is_so(claim), expected, claim)
            own = paper(claim)
            self.assertTrue(strictly(paper(listed(claim)), own))
            self.assertTrue((is_right if expected else is_against)(claim, own), claim)
            self.assertIs(shows(claim, own), expected)
            self.assertIs(is_paper(claim, own), True)
            seen[claim[0], expected] = seen.get((claim[0], expected), 0) + 1
        self.assertEqual(len(seen), 14, seen)
        self.assertGreater(min(seen.values()), 5, seen)

    def test_one_and_the_same_thing_never_shows_both(self):
        """All PAPERS are asked of all CLAIMS: what shows one, shows it the way it is."""
        claims = [claim for claim, _ in all_claims(12)]
        papers = [paper(claim) for claim in claims] + [(), 0, 1, (0, 1, 0), (0, (0,)), ((), 0), (0,), (1, 1)]
        for claim in claims:
            expected = is_so(claim)
            for thing in papers:
                self.assertIn(shows(claim, thing), (None, expected))
                self.assertIs(is_paper(claim, thing), shows(claim, thing) is not None)

    def test_by_hand(self):
        for claim in SO:
            self.assertIs(is_claim(claim), True, claim)
            self.assertIs(is_so(claim), True, claim[0])
            self.assertIs(shows(claim, paper(claim)), True)
        for claim in NOT_SO:
            self.assertIs(is_claim(claim), True, claim)
            self.assertIs(is_so(claim), False, claim[0])
            self.assertIs(shows(claim, paper(claim)), False)
        self.assertEqual([paper(claim) for claim in SO if claim[0] in ("steady", "two", "repair", "start")],
                         [(0, 1, 0), (0, 1, 0), 1, (0, (7,))])
        self.assertEqual([paper(claim) for claim in NOT_SO if claim[0] not in ("kept", "looks")],
                         [1, 0, (0, 0, 0, 0), (("entered", 1), ("entered", 2), ("entered", 3)), (1,) * 7])

    def test_papers_of_the_other_kind_and_other_things(self):
        for claims, other in ((SO, NOT_SO), (NOT_SO, SO)):
            for claim, opposite in zip(claims, other):
                self.assertIsNone(shows(claim, paper(opposite)), claim[0])
                for thing in (None, True, False, "", [], listed(paper(claim)), (paper(claim),), -1, "steady", claim, [0, 1, 0]):
                    if not strictly(thing, paper(claim)):
                        self.assertIsNone(shows(claim, thing), (claim[0], thing))
                        self.assertIs(is_paper(claim, thing), False)

    def test_starts(self):
        claim = SO[-1]
        for thing, expected in (((0, (7,)), True), ((0, (6,)), None), ((0, (8,)), None), ((1, (7,)), None), ((0, (0, 7)), None),
                                ((0, (7, 0)), None), ((0, ()), None), ((False, (7,)), None), ((0, [7]), None), (7, None)):
            self.assertIs(shows(claim, thing), expected, thing)
        # More wood than most shows nothing, though it holds.
        wide = claim[:5] + (9,)
        self.assertEqual([shows(wide, (0, (wood,))) for wood in (6, 7, 8, 9, 10)], [None, True, True, True, None])

    def test_fits(self):
        claim = SO[3]
        for thing, expected in ((((7, 1), 0), True), (((9, 1), 1), True), (((8, 1), 0), None), (((7, 1), 2), None),
                                (((7, 1), False), None), ([(7, 1), 0], None), (((7,), 0), None), ((0,) * 4, None), ((), None)):
            self.assertIs(shows(claim, thing), expected, thing)
        claim = NOT_SO[3]
        for thing, expected in (((0, 0, 0, 0), False), ((1, 0, 0, 0), False), ((1, 1, 1, 1), False), ((0, 0, 0, 2), None),
                                ((0, 0, 0), None), ((0, 0, 0, False), None), (((7, 1), 0), None)):
            self.assertIs(shows(claim, thing), expected, thing)

    def test_one_case_wants_no_looks(self):
        claim = ("looks", ((STOVE, None),), (), (), (), 0)
        self.assertEqual((is_claim(claim), is_so(claim), paper(claim), shows(claim, ())), (True, True, (), True))
        self.assertIsNone(shows(claim, []))
        # A WORKS that is out has () as DEATH LIST.
        claim = ("kept", ASH, (), ((),))
        self.assertEqual((is_so(claim), paper(claim), shows(claim, ()), is_paper(claim, [])), (False, (), False, False))


class About(unittest.TestCase):
    def test_about(self):
        for claim in SO + NOT_SO:
            for rules in ((), FUEL, ((1, (), ("open",)),)):
                if claim[0] == "fits":
                    self.assertEqual(answer(about, claim, rules), raised("Unfit"))
                else:
                    expected = claim[:2] + (rules,) + claim[3:]
                    self.assertTrue(strictly(about(claim, rules), expected))
                    self.assertTrue(strictly(about(listed(claim), listed(rules)), expected))

    def test_not_so_and_turned_by(self):
        self.assertEqual(not_so(()), ())
        self.assertEqual(turned_by((), FUEL), ())
        self.assertEqual(not_so(SO), ())
        self.assertEqual(not_so(NOT_SO), tuple(range(7)))
        self.assertEqual(not_so(SO[:2] + NOT_SO[2:4] + SO[:1]), (2, 3))
        rows = [claim for claim, _ in all_claims(25)]
        turned = 0
        for start in range(0, len(rows), 5):
            claims = tuple(rows[start:start + 5])
            self.assertTrue(strictly(not_so(claims), tuple(number for number, claim in enumerate(claims) if not is_so(claim))))
            for rules in ((), ((0, (("pieces", 1),), ("coal", (9,))),)):
                expected = tuple(number for number, claim in enumerate(claims) if claim[0] != "fits" and answer(
                    lambda: is_so(claim) != is_so(claim[:2] + (rules,) + claim[3:])) is True)
                if not any(answer(is_so, claim[:2] + (rules,) + claim[3:]) == raised("TooMany") for claim in claims
                           if claim[0] != "fits"):
                    self.assertTrue(strictly(turned_by(claims, rules), expected))
                    turned += len(expected)
        self.assertGreater(turned, 8)

    def test_a_fits_one_is_asked_nothing(self):
        broken = ("fits", None, None, None)
        self.assertEqual(turned_by((broken, SO[0], broken), ()), (1,))
        self.assertEqual(answer(about, broken, ()), raised("Unfit"))
        wrong = ("fits", PLAY, UNKNOWN, ((3, 1),))
        self.assertEqual(turned_by((wrong,), FUEL), ())
        self.assertEqual(answer(not_so, (SO[0], wrong)), raised("NoChamber", 3))


class Errors(unittest.TestCase):
    ALL = ((is_so, ()), (paper, ()), (is_paper, (None,)), (shows, (1,)), (about, ((),)))

    def each(self, claim, expected):
        for function, more in self.ALL:
            self.assertEqual(answer(function, claim, *more), expected, function.__name__)

    def word(self, word):
        return "raises", "NoWord", (("word", word),)

    def test_word_then_count(self):
        for word in ("", "loud", "Steady", "steady ", 0, None, True, "fit"):
            for rest in ((), (STOVE, FUEL), (None,) * 9):
                self.each((word,) + rest, self.word(word))
                self.assertEqual(answer(not_so, (SO[0], (word,) + rest)), self.word(word))
                self.assertEqual(answer(turned_by, ((word,) + rest,), FUEL), self.word(word))
        for word, length in LENGTHS.items():
            for count in range(9):
                if count + 1 != length:
                    claim = (word,) + (None,) * count
                    self.each(claim, raised("Unfit"))
                    self.assertEqual(answer(not_so, (claim,)), raised("Unfit"))
                    self.assertEqual(answer(turned_by, (claim,), FUEL), raised("Unfit"))

    def test_then_what_the_point_raises(self):
        for number in (-1, 3, 99):
            for claim in (("repair", STOVE, FUEL, number, 1, 4), ("start", STOVE, FUEL, number, 4, 9),
                          ("fits", PLAY, UNKNOWN, ((number, 1),)),
                          ("looks", ((STOVE, None),), FUEL, (), (("flue", 1), ("heat", 1, number)), 1)):
                for function, more in self.ALL[:4]:
                    self.assertEqual(answer(function, claim, *more), raised("NoChamber", number))
                self.assertEqual(answer(not_so, (claim,)), raised("NoChamber", number))
                expected = () if claim[0] == "fits" else raised("NoChamber", number)
                self.assertEqual(answer(turned_by, (claim,), FUEL), expected)
                # about raises nothing else.
                expected = raised("Unfit") if claim[0] == "fits" else claim[:2] + ((),) + claim[3:]
                self.assertEqual(answer(about, claim, ()), expected)

    def test_too_many(self):
        make = CRAFT[:5] + (0,)
        hoard = (make, ((None, 8, 0, (), False, False, True), COLD, COLD), NOUGHTS)
        wood = ((0, (), ("wood", 1)),)
        two = (make, hoard[1][:2] * 2, NOUGHTS)
        for claim in (("steady", hoard, wood), ("two", two, wood), ("kept", hoard, wood, ((),))):
            for function in (is_so, paper):
                self.assertEqual(answer(function, claim), raised("TooMany"))
            # The judges raise none.
            self.assertIs(is_paper(claim, (0, 1, 0)), False)
            self.assertIsNone(shows(claim, 3))
            self.assertEqual(answer(not_so, (claim,)), raised("TooMany"))
            self.assertEqual(answer(turned_by, (claim,), ()), raised("TooMany"))
        self.assertIs(is_so(("two", hoard, wood)), False)

    def test_one_claim_is_asked_whole_then_the_next_one(self):
        loud, short = ("loud",), ("steady", STOVE)
        wrong = ("repair", STOVE, FUEL, 7, 1, 4)
        for claims, expected in (((loud, short), self.word("loud")), ((short, loud), raised("Unfit")),
                                 ((wrong, loud), raised("NoChamber", 7)), ((SO[0], NOT_SO[0], short, wrong), raised("Unfit"))):
            self.assertEqual(answer(not_so, claims), expected)
            self.assertEqual(answer(turned_by, claims, FUEL), expected)


class Shapes(unittest.TestCase):
    def test_no_claims(self):
        for thing in (None, 0, True, "", "steady", (), [], ("steady",), ("loud", STOVE, FUEL), (None, STOVE, FUEL), (0, STOVE, FUEL),
                      ((), STOVE, FUEL), (["steady"], STOVE, FUEL), (True, STOVE, FUEL), (("steady", STOVE, FUEL),)):
            self.assertIs(is_claim(thing), False, thing)
        for claim in SO + NOT_SO:
            for thing in (list(claim), claim[:-1], claim + (0,), claim[1:], ("loud",) + claim[1:], listed(claim)):
                self.assertIs(is_claim(thing), False, claim[0])
            for place in range(1, len(claim)):
                for bent in (None, True, "", [], (None,), -1, listed(claim[place]) if isinstance(claim[place], tuple) else "0"):
                    if bent != claim[place] or isinstance(bent, bool):
                        thing = claim[:place] + (bent,) + claim[place + 1:]
                        self.assertIs(is_claim(thing), False, (claim[0], place, bent))

    def bent(self, claim, place, things, expected):
        for thing in things:
            self.assertIs(is_claim(claim[:place] + (thing,) + claim[place + 1:]), expected, (claim[0], place, thing))

    def test_works_rules_choices(self):
        other = ((0, (), ("set", ((1, 5),))),)
        for claim in SO:
            if claim[0] not in ("fits", "looks"):
                self.bent(claim, 1, (STOVE[:2], (CRAFT, (LIT, COLD), NOUGHTS), (CRAFT, (LIT, COLD, ((1,),)), NOUGHTS)), False)
                self.bent(claim, 1, ((CRAFT, (LIT, COLD) * 4, (1,) * 7),), True)
            if claim[0] != "fits":
                self.bent(claim, 2, (other, ((0, (("loud",),), ("draw",)),), ((0, ("draw",)),), (((0, (), ("draw",)),),)), False)
                self.bent(claim, 2, ((), FUEL * 9, ((-40, (), ("set", ((0, 5),))),)), True)
        self.bent(SO[2], 3, ((), ((0, ("draw",)),), (((0, ("set", ((1, 5),))),),), (((0, ("set", ((0, 5), (3, 5)))),),)), False)
        self.bent(SO[2], 3, (((),), ((),) * 7, (((0, ("set", ((0, 5),))),) * 5,)), True)

    def test_numbers(self):
        repair, start = SO[5], SO[6]
        for claim in (repair, start):
            self.bent(claim, 3, (-1, 3, 99, True, None, "0"), False)
            self.bent(claim, 3, (0, 1, 2), True)
        self.bent(repair, 4, (0, -1, 5, 99, True, None), False)
        self.bent(repair, 4, (1, 4), True)
        self.bent(repair, 5, (0, 1, -1, True, None, "4"), False)
        self.bent(repair, 5, (2, 3, 999), True)
        self.bent(start, 4, (0, -1, True, None), False)
        self.bent(start, 4, (1, 999), True)
        self.bent(start, 5, (-1, True, None), False)
        self.bent(start, 5, (0, 999), True)

    def test_plays_unknowns_readings(self):
        fits = SO[3]
        works, rules, told, many = PLAY
        self.bent(fits, 1, (PLAY[:3], PLAY + (0,), (works, rules, told, 0), (works, rules, told, True), (works, rules, None, 1),
                            (works, ((0, (), ("set", ((1, 1),))),), told, 1), (works[:2], rules, told, 1),
                            (works, rules, ((1, ("open", 3)),), 1), (works, rules, ((1, ("set", 0, ((1, 1),))),), 1),
                            (works, rules, ((2, ("draw", 0)), (1, ("draw", 0))), 1), (works, rules, ((0, ("draw", 0)),), 1)), False)
        self.bent(fits, 1, ((works, (), (), 1), (works, rules, ((1, ("open", 2)),) * 70, 99)), True)
        begun, faults = UNKNOWN
        self.bent(fits, 2, ((begun,), (begun, faults, ()), (begun, ()), (begun, None), (None, faults), (begun, (("damp", 3),)),
                            (begun, (("loud", 0),)), (begun, (None, ("damp", 3))), (begun, (("damp", 3), None)),
                             (begun, (0,)), (begun, (("damp", -1),)), (begun, ([],)),
                            (((0, (7, 9)), (0, (1,))), faults), (((3, (1,)),), faults), (((-1, (1,)),), faults),
                            (((0, ()),), faults), (((0, (9, 7)),), faults), (((0, (7, 7)),), faults), (((0, (-1, 7)),), faults),
                            (((0, (True,)),), faults), (((0, 7),), faults), (((0,),), faults), (((True, (7,)),), faults),
                            (([0, (7,)],), faults), (((0, [7]),), faults)), False)
        self.bent(fits, 2, (((), (None,)), (((2, (0,)), (0, (1, 2, 3, 4))), (None, None, ("leak", 2)))), True)
        self.bent(fits, 3, (((3, 1),), ((-1, 1),), ((0, -1),), ((0, True),), ((True, 0),), ((0,),), ((0, 1, 2),), (0, 1), ([0, 1],),
                            ((0, None),)), False)
        self.bent(fits, 3, ((), ((0, 1), (0, 1), (2, 0)), ((1, 10 ** 9),)), True)

    def test_cases_looks_told(self):
        looks = SO[4]
        other = (CRAFT, (LIT, COLD, COLD, COLD), NOUGHTS)
        self.bent(looks, 1, ((), ((STOVE, None), (other, None)), ((STOVE, ("damp", 3)),), ((STOVE,),), ((STOVE, None, None),),
                             ((STOVE[:2], None),), ([STOVE, None],), ((STOVE, None), (STOVE,)), ((STOVE, None), (STOVE[:2], None)),
                             ((STOVE, None), (STOVE, 0)), ((STOVE, 0),), (STOVE, None), ((STOVE, ()),)), False)
        two = (((900, 1, 900), (5, 1, 6)),) + CRAFT[1:]
        wide = (two,) + STOVE[1:]
        self.bent(looks, 1, (((STOVE, None),), ((other, ("leak", 3)),) * 9, ((STOVE, None), (wide, None))), True)
        # KINDS of each CASE's MAKE.
        green = ((0, (), ("set", ((1, 5),))),)
        for cases, expected in ((((wide, None),), True), (((wide, None), (STOVE, None)), False)):
            self.assertIs(is_claim(looks[:1] + (cases, green) + looks[3:]), expected)
            told = ((1, ("set", 0, ((1, 5),))),)
            self.assertIs(is_claim(looks[:1] + (cases, (), told) + looks[4:]), expected)
        self.bent(looks, 3, (((1, ("draw", 3)),), ((0, ("draw", 0)),), ((1, ("loud", 0)),), ((1, ("draw", 0)), (0, ("draw", 0)))), False)
        self.bent(looks, 3, (((1, ("draw", 2)), (1, ("coal", 0, ()))),), True)
        self.bent(looks, 4, ((("heat", 1, 3),), (("heat", 0, 1),), (("flue", 1, 1),), (("loud", 1, 1),), (["flue", 1],), ("flue", 1)), False)
        self.bent(looks, 4, ((), (("top", 99, 2),) * 9), True)
        self.bent(looks, 5, (-1, True, None), False)
        self.bent(looks, 5, (0, 3, 99), True)


class Guarantees(unittest.TestCase):
    def test_nothing_handed_in_is_changed(self):
        for claim in SO + NOT_SO:
            own = listed(claim)
            before = kept(own)
            for function, more in Errors.ALL:
                answer(function, own, *more)
            not_so([own])
            turned_by([own], [])
            self.assertEqual(own, before)

    def test_rings_turned(self):
        for seed in range(20):
            for claim, expected in run_claims(seed):
                make, chambers, ledger = claim[1]
                for by in range(1, len(chambers)):
                    turned = (make, chambers[by:] + chambers[:by], ledger)
                    self.assertIs(is_so((claim[0], turned, claim[2])), expected)


if __name__ == "__main__":
    unittest.main()
