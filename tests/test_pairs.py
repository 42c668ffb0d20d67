"""pairs.py: [13]. Runs are played tick by tick by the second reading (tests/oracle.py)."""

import unittest

from ringkiln.pairs import (apart, apart_row, fars_that_stay, fires_for_ever, how_lone, is_lone_paper, is_pair_paper,
                            lone_paper, most_fires, nearest_ever, one_draught, pair_paper, pair_works, starved_row,
                            stay_two)
from ringkiln.steady import is_steady, is_steady_paper, out_paper, steady_paper
from tests import oracle
from tests.support import NOUGHTS, SHUT, answer, lively_rules, lively_works, raised, some_rules, some_works, strictly

MAKE = (((20, 3, 90),), 0, 4, 4, 900, 0)
FAR = 10 ** 30
MANY = raised("TooMany")
NONE = raised("NoPaper")


def part(heat=0, coal=(), doors="", load=None):
    return load, heat, 0, coal, "w" in doors, "d" in doors, "s" in doors


def works_of(*chambers, make=MAKE):
    return make, chambers, NOUGHTS


def of_heats(*heats):
    return works_of(*[part(heat) for heat in heats])


WOOD = ((0, (), ("wood", 1)),)
# Two quiet FIRES, and a SET of which as many unlike things are seen as it stands ticks.
TWO = of_heats(8, 0, 8, 0)


def counting(stay):
    make = (((8, stay, 90),),) + MAKE[1:]
    return make, (part(8, load=((0, 1, 0),)), part(), part(8), part()), NOUGHTS


def plain_apart(works):
    """From each front, step by step, to the next one."""
    fronts = oracle.fronts(works)
    many = len(works[1])
    return tuple(next(steps for steps in range(1, many + 1) if (front + steps) % many in fronts) for front in fronts)


def cases(seeds):
    """WORKS, RULES, the rows of 60 ticks, and behind how many ticks all is seen again or out."""
    for seed in seeds:
        own = some_works(seed)
        for works, rules in ((own, some_rules(seed, own[0])), (lively_works(seed), lively_rules(seed))):
            if answer(is_steady, works, rules) == MANY:
                continue
            length = sum(steady_paper(works, rules)[:2]) if is_steady(works, rules) else out_paper(works, rules)
            if length <= 40:
                yield works, rules, oracle.rows_by(works, rules, 60), length


class Apart(unittest.TestCase):
    def test_apart(self):
        rows = {(0, 0, 0): (), (8, 0, 0): (3,), (8, 8, 8): (), (8, 8, 0): (3,), (8, 0, 8, 0): (2, 2),
                (8, 0, 0, 8, 0): (3, 2), (8, 8, 0, 8, 0, 0, 8): (2, 5), (0, 8, 0, 8, 0, 8): (2, 2, 2),
                (8, 0, 8, 0, 0, 0, 0, 0, 8, 8, 8, 0): (2, 8, 2), (0,) * 11 + (8,): (12,)}
        for heats, expected in rows.items():
            self.assertEqual(apart(of_heats(*heats)), expected, heats)

    def test_rows(self):
        found = set()
        for works, rules, rows, _ in cases(range(60)):
            expected = [plain_apart(row) for row in rows]
            self.assertTrue(strictly(apart_row(works, rules, 60), expected))
            self.assertTrue(strictly(apart(works), expected[0]))
            self.assertEqual(apart_row(works, rules, 0), expected[:1])
            found.update(expected)
        self.assertGreater(len(found), 15)

    def test_all_apart_is_once_round(self):
        for works, rules, rows, _ in cases(range(40)):
            for row in apart_row(works, rules, 20):
                self.assertIn(sum(row), (0, len(works[1])))

    def test_no_end_is_no_matter(self):
        self.assertEqual(apart_row(TWO, WOOD, 1000), [(2, 2)] * 1001)


class Papers(unittest.TestCase):
    def test_against_the_run(self):
        kinds = {}
        for works, rules, rows, length in cases(range(150)):
            many = [len(oracle.fires(row)) for row in rows]
            lone = next((tick for tick, number in enumerate(many) if number < 2), None)
            self.assertIs(stay_two(works, rules), lone is None)
            if lone is None:
                self.assertEqual(pair_paper(works, rules), steady_paper(works, rules))
                self.assertEqual(answer(lone_paper, works, rules), NONE)
                self.assertIsNone(how_lone(works, rules))
            else:
                self.assertEqual(answer(pair_paper, works, rules), NONE)
                self.assertEqual(lone_paper(works, rules), lone)
                self.assertEqual(how_lone(works, rules), self.plain_how(rows, lone))
            kinds[how_lone(works, rules)] = kinds.get(how_lone(works, rules), 0) + 1
            for tick in list(range(0, 60, 9)) + [lone or 0, (lone or 1) - 1]:
                self.assertIs(is_lone_paper(works, rules, tick), many[tick] < 2)
            # The FIRE behind the last tick alone is that of the run for ever, if it is steady.
            for tick, long, turning in ((0, 1, 0), (3, 2, 1), (length, 1, 0), (length, 6, 0), (length + 1, 2, 1)):
                triple = (tick, long, turning)
                expected = is_steady_paper(works, rules, triple) and min(many[:tick + long + 1]) > 1
                self.assertIs(is_pair_paper(works, rules, triple), expected)
            if is_steady(works, rules):
                first = steady_paper(works, rules)
                self.assertIs(is_pair_paper(works, rules, first), lone is None)
        self.assertEqual(sorted(map(str, kinds)), ["None", "ahead", "gone", "met"])
        self.assertGreater(min(kinds.values()), 10)

    def plain_how(self, rows, lone):
        if lone == 0:
            return "ahead"
        for fire in oracle.fires(rows[lone]):
            if sum(bool(fire & old) for old in oracle.fires(rows[lone - 1])) >= 2:
                return "met"
        return "gone"

    def test_no_fire_and_a_fire_of_all(self):
        for heats in ((0, 0, 0), (8, 8, 8), (8, 0, 0)):
            works = of_heats(*heats)
            self.assertIs(stay_two(works, WOOD), False)
            self.assertEqual((lone_paper(works, WOOD), how_lone(works, WOOD)), (0, "ahead"))
            self.assertIs(is_lone_paper(works, WOOD, 0), True)

    def test_two_that_become_one_of_all(self):
        # The wood fills the gaps: what was two FIRES is one of all CHAMBERS.
        rules = ((1, (), ("wood", 8)),)
        self.assertEqual((lone_paper(TWO, rules), how_lone(TWO, rules)), (1, "met"))

    def test_one_gone_the_other_parted(self):
        # A FIRE that has CHAMBERS of one FIRE of the tick ahead alone: the other is gone.
        works = works_of(part(8), part(), part(5, (), "wd"), part(), part())
        self.assertEqual((lone_paper(works, ()), how_lone(works, ())), (1, "gone"))

    def test_two_come_again_from_one(self):
        # Wood two ahead of a FIRE alone makes two of it: a LONE PAPER is that of its tick only.
        works = works_of(part(8), part(), part(), part(), part(), part())
        rules = ((2, (("below", 4),), ("wood", 8)),)
        self.assertEqual([is_lone_paper(works, rules, tick) for tick in (0, 1, 2)], [True, False, False])
        self.assertEqual(lone_paper(works, rules), 0)
        self.assertEqual(fires_for_ever(works, rules), (3,))
        self.assertIs(is_pair_paper(works, rules, (2, 1, 0)), False)
        self.assertIs(is_steady_paper(works, rules, (2, 1, 0)), True)

    def test_things_that_are_none(self):
        self.assertIs(is_pair_paper(TWO, (), (0, 1, 0)), True)
        self.assertIs(is_pair_paper(TWO, (), (0, 1, 2)), True)
        self.assertIs(is_pair_paper(TWO, (), (3999, 1, 0)), True)
        for thing in ([0, 1, 0], (0, 1), (0, 1, 0, 0), (-1, 1, 0), (0, 0, 0), (0, 1, -1), (0, 1, 4), (0, 1, 1),
                      (False, 1, 0), (0, True, 0), (0, 1, False), None, 0, "", (), (4000, 1, 0), (FAR, 1, 0)):
            self.assertIs(is_pair_paper(TWO, (), thing), False, thing)
        lone = of_heats(8, 0, 0)
        self.assertIs(is_lone_paper(lone, (), 4000), True)
        for thing in (-1, 4001, FAR, True, False, None, "0", (0,), [0], (), (0, 1, 0)):
            self.assertIs(is_lone_paper(lone, (), thing), False, thing)


class ForEver(unittest.TestCase):
    def test_nearest_and_numbers(self):
        told = set()
        for works, rules, rows, length in cases(range(120)):
            nearest = [min(plain_apart(row)) for row in rows if len(oracle.fronts(row)) > 1]
            self.assertEqual(nearest_ever(works, rules), min(nearest) if nearest else None)
            if is_steady(works, rules):
                tick, long, _ = steady_paper(works, rules)
                expected = {len(oracle.fires(row)) for row in rows[tick:tick + long]}
            else:
                expected = {0}
            self.assertEqual(fires_for_ever(works, rules), tuple(sorted(expected)))
            told.add((nearest_ever(works, rules), fires_for_ever(works, rules)))
        self.assertGreater(len(told), 10)

    def test_a_fire_of_all_for_ever(self):
        self.assertEqual(fires_for_ever(of_heats(8, 8, 8), ()), (1,))
        self.assertIsNone(nearest_ever(of_heats(8, 8, 8), ()))
        self.assertIsNone(nearest_ever(of_heats(8, 0, 0), ()))
        self.assertEqual(nearest_ever(of_heats(8, 0, 8, 0, 0, 0, 0), ()), 2)


class TooManyTicks(unittest.TestCase):
    def test_without_end(self):
        for function in (stay_two, pair_paper, lone_paper, how_lone, nearest_ever, fires_for_ever):
            self.assertEqual(answer(function, TWO, WOOD), MANY)
        self.assertIs(is_pair_paper(TWO, WOOD, (0, 1, 0)), False)
        self.assertIs(is_lone_paper(TWO, WOOD, 3), False)

    def test_settled_by_a_lone_paper(self):
        lone = of_heats(8, 0, 0)
        self.assertIs(stay_two(lone, WOOD), False)
        self.assertEqual((lone_paper(lone, WOOD), how_lone(lone, WOOD)), (0, "ahead"))
        self.assertEqual(answer(pair_paper, lone, WOOD), NONE)
        # These want to know what comes of it behind that, too.
        self.assertEqual(answer(nearest_ever, lone, WOOD), MANY)
        self.assertEqual(answer(fires_for_ever, lone, WOOD), MANY)

    def test_just_so(self):
        self.assertEqual(pair_paper(counting(3999), ()), (3999, 1, 0))
        self.assertEqual((stay_two(counting(3999), ()), nearest_ever(counting(3999), ())), (True, 2))
        self.assertEqual(fires_for_ever(counting(3999), ()), (2,))
        self.assertEqual(answer(lone_paper, counting(3999), ()), NONE)
        for function in (stay_two, pair_paper, lone_paper, how_lone, nearest_ever, fires_for_ever):
            self.assertEqual(answer(function, counting(4000), ()), MANY)

    def test_of_patterns(self):
        pattern, cold = (part(8), part()), part()
        self.assertEqual(answer(fars_that_stay, MAKE, pattern, cold, 6, WOOD), MANY)
        self.assertEqual(answer(most_fires, MAKE, pattern, cold, 6, WOOD), MANY)
        # No far without error: no run is asked for.
        self.assertEqual(fars_that_stay(MAKE, pattern, cold, 3, WOOD), ())
        # A pattern with no FIRE settles it.
        self.assertEqual(fars_that_stay(MAKE, (cold, cold), cold, 6, WOOD), ())
        self.assertEqual(most_fires(MAKE, (cold, cold), cold, 6, WOOD), 0)
        # Three patterns hold for ever; from one alone wood would pile up two behind: it is not asked for.
        alone = ((-2, (("below", 1),), ("wood", 1)), (-2, (("from", 1), ("below", 4)), ("coal", (1,))))
        self.assertEqual(most_fires(MAKE, pattern, cold, 6, alone), 3)
        self.assertEqual(answer(is_steady, works_of(*pattern + (cold,) * 4), alone), MANY)


class Draughts(unittest.TestCase):
    def test_one_draught(self):
        for seed in range(200):
            works = some_works(seed)
            rows = oracle.stretches(oracle.opened(works))
            for one in range(len(works[1])):
                for two in range(len(works[1])):
                    self.assertIs(one_draught(works, one, two), any(one in row and two in row for row in rows))

    def test_no_chamber(self):
        works = of_heats(8, 0, 0)
        for one, two, number in ((-1, 0, -1), (3, 9, 3), (0, 3, 3), (2, -1, -1), (7, -1, 7)):
            self.assertEqual(answer(one_draught, works, one, two), raised("NoChamber", number))

    def test_starved(self):
        found = 0
        for seed in range(150):
            own = some_works(seed)
            for works, rules in ((own, some_rules(seed, own[0])), (lively_works(seed), lively_rules(seed))):
                expected = []
                for before, row in enumerate(oracle.rows_by(works, rules, 8)[:8]):
                    expected += [(before + 1, number) for number in self.plain_starved(row, rules)]
                self.assertTrue(strictly(starved_row(works, rules, 8), expected))
                found += len(expected)
        self.assertGreater(found, 300)

    def plain_starved(self, works, rules):
        """CHAMBERS to which a piece put in behind step 2 would be burnt, though none lies there."""
        state = oracle.opened(works)
        oracle.obey(state, rules)
        many = range(len(state["ring"]))
        starved = []
        for number in many:
            if not state["ring"][number]["coal"]:
                other = oracle.opened(oracle.closed(state))
                other["ring"][number]["coal"] = [7]
                oracle.steps_on(other, False)
                if other["ring"][number]["coal"] == []:
                    starved.append(number)
        return starved

    def test_starved_in_step_5(self):
        # 9 is 5 behind the air: no heat for coal at kindling 6; 12 is 6.
        make = MAKE[:2] + (6,) + MAKE[3:]
        for heat, expected in ((9, []), (12, [(1, 0)])):
            self.assertEqual(starved_row(works_of(part(heat, (), "wd"), part(9), part(), make=make), (), 1), expected)
        self.assertEqual(starved_row(works_of(part(12, (3,), "wd"), part(), part(), make=make), (), 1), [])
        self.assertEqual(starved_row(works_of(part(12, (), "wd"), part(), part(), make=make),
                                     ((0, (), ("coal", (3,))),), 1), [])


class Patterns(unittest.TestCase):
    PATTERN = (part(8), part(9, (3,), "s"))
    FILLER = part(1, (2,), "d")

    def test_pair_works(self):
        one, two = self.PATTERN
        own = self.FILLER
        rows = {(5, 2): (one, two, one, two, own), (5, 3): (one, two, own, one, two), (4, 2): (one, two, one, two),
                (12, 7): (one, two) + (own,) * 5 + (one, two) + (own,) * 3}
        for (many, far), chambers in rows.items():
            self.assertTrue(strictly(pair_works(MAKE, self.PATTERN, own, many, far), (MAKE, chambers, NOUGHTS)))

    def test_errors(self):
        for many in (3, 5, 12):
            for far in (-1, many, 99):
                self.assertEqual(answer(pair_works, MAKE, self.PATTERN, self.FILLER, many, far),
                                 raised("NoChamber", far))
                # The number of a CHAMBER is looked at first.
                self.assertEqual(answer(pair_works, MAKE, self.PATTERN * 9, self.FILLER, many, far),
                                 raised("NoChamber", far))
        for many, far in ((5, 0), (5, 1), (5, 4), (3, 0), (3, 1), (3, 2), (12, 11)):
            self.assertEqual(answer(pair_works, MAKE, self.PATTERN, self.FILLER, many, far), raised("Unfit"))
        for many in (3, 4, 5):
            # Such a pattern shares a CHAMBER with itself.
            self.assertEqual(answer(pair_works, MAKE, (SHUT,) * (many + 1), SHUT, many, 2), raised("Unfit"))
            self.assertEqual(answer(pair_works, MAKE, (SHUT,) * many, SHUT, many, 2), raised("Unfit"))

    def test_fars(self):
        told = set()
        for seed in range(20):
            works, rules = lively_works(seed), lively_rules(seed)
            pattern = works[1][:3 + seed % 2]
            for many in (8, 9):
                expected = []
                for far in range(many):
                    own = answer(pair_works, works[0], pattern, SHUT, many, far)
                    if own != raised("Unfit"):
                        expected.append((far, answer(stay_two, own, rules)))
                if MANY in [stays for _, stays in expected]:
                    self.assertEqual(answer(fars_that_stay, works[0], pattern, SHUT, many, rules), MANY)
                else:
                    expected = tuple(far for far, stays in expected if stays)
                    self.assertEqual(fars_that_stay(works[0], pattern, SHUT, many, rules), expected)
                    told.add(expected)
        self.assertGreater(len(told), 3)

    def test_most_fires(self):
        told = set()
        for seed in range(30):
            works, rules = lively_works(seed), lively_rules(seed)
            pattern = works[1][:3 + seed % 2]
            for many in (9, 12, 3):
                expected = 0
                for number in range(many, 0, -1):
                    if many % number == 0 and number * len(pattern) <= many:
                        row = (pattern + (SHUT,) * (many // number - len(pattern))) * number
                        holds = self.holds((works[0], row, NOUGHTS), rules, number)
                        if holds is not False:
                            expected = number if holds else MANY
                            break
                self.assertEqual(answer(most_fires, works[0], pattern, SHUT, many, rules), expected)
                told.add(expected)
        self.assertGreaterEqual(told, {0, 1, 2, 3})

    def holds(self, works, rules, number):
        """Whether there are never fewer FIRES; None if that is not settled."""
        steady = answer(is_steady, works, rules)
        last = 300 if steady == MANY else sum(steady_paper(works, rules)[:2]) if steady else out_paper(works, rules)
        fewer = any(len(oracle.fires(row)) < number for row in oracle.rows_by(works, rules, last))
        return False if fewer else None if steady == MANY else True

    def test_most_fires_edges(self):
        lit = (part(8),)
        # A pattern of one CHAMBER laid everywhere is one FIRE of all.
        self.assertEqual(most_fires(MAKE, lit, part(), 12, ()), 6)
        self.assertEqual(most_fires(MAKE, lit, part(), 3, ()), 1)
        self.assertEqual(most_fires(MAKE, lit + (part(),), part(), 12, ()), 6)
        self.assertEqual(most_fires(MAKE, lit + (part(), part()), part(), 11, ()), 1)
        self.assertEqual(most_fires(MAKE, lit * 12, part(), 12, ()), 1)
        self.assertEqual(most_fires(MAKE, lit * 13, part(), 12, ()), 0)
        self.assertEqual(most_fires(MAKE, (part(),), part(), 12, ()), 0)


class Guarantees(unittest.TestCase):
    def test_one_of_both_papers(self):
        for works, rules, _, _ in cases(range(60)):
            none = [answer(pair_paper, works, rules) == NONE, answer(lone_paper, works, rules) == NONE]
            self.assertEqual(sorted(none), [False, True])
            if none[0]:
                self.assertIs(is_lone_paper(works, rules, lone_paper(works, rules)), True)
            else:
                self.assertIs(is_pair_paper(works, rules, pair_paper(works, rules)), True)


if __name__ == "__main__":
    unittest.main()
