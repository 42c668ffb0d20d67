"""looks.py: [18]. Each CASE is played by the second reading; PLANS and DOUBTS are judged apart, in all orders of LOOKS."""

import itertools
import unittest

from ringkiln.looks import (best_look, blind_pairs, is_look, is_looks_doubt, is_looks_plan, least_looks, looks_doubt,
                            looks_needed, looks_plan, parted_by, shown_by, worth_of)
from tests import oracle
from tests.graphs import small_works
from tests.support import NOUGHTS, Numbers, answer, listed, lively_rules, raised, some_told, some_works, strictly
from tests.test_back import some_fault

MAKE = (((20, 3, 90),), 0, 4, 4, 30, 0)
NONE = raised("NoPaper")


def part(heat=0, coal=(), doors="", load=None, top=0):
    return load, heat, top, coal, "w" in doors, "d" in doors, "s" in doors


def works_of(*chambers, make=MAKE):
    return make, chambers, NOUGHTS


def some_look(numbers, many, last):
    word = numbers.one_of(("heat", "heat", "top", "coal", "coal", "flue"))
    tick = 1 + numbers.below(last)
    return (word, tick) if word == "flue" else (word, tick, numbers.below(many))


def some_cases(seed):
    """CASES of one ring that differ a little, RULES, told DEEDS and LOOKS."""
    numbers = Numbers(seed * 43 + 7)
    works = small_works(seed) if seed % 2 else some_works(seed)
    many = len(works[1])
    cases = []
    for _ in range(1 + numbers.below(5)):
        row = list(works[1])
        for number in range(numbers.below(3)):
            load, heat, top, coal, *doors = row[number]
            coal += (coal[-1:] or (7,)) * numbers.below(2)
            row[number] = (load, heat + 9 * numbers.below(2), top, coal, *doors)
        cases.append(((works[0], tuple(row), works[2]), some_fault(numbers, many)))
    looks = tuple(some_look(numbers, many, 3) for _ in range(numbers.below(6)))
    return tuple(cases), lively_rules(seed)[:numbers.below(3)], some_told(seed, works, 5), looks


def plain_shown(case, rules, told, look):
    works = oracle.run_case(case[0], case[1], rules, told, look[1])[look[1]]
    if look[0] == "flue":
        return works[2][1]
    chamber = works[1][look[2]]
    return {"heat": chamber[1], "top": chamber[2], "coal": len(chamber[3])}[look[0]]


def table_of(cases, rules, told, looks):
    """For each look the tuple of what it shows of the CASES."""
    return [tuple(plain_shown(case, rules, told, look) for case in cases) for look in looks]


def has_plan(table, looks, lot, most, tick):
    """Whether there is a PLAN, each look tried, also those that part nothing."""
    if len(lot) == 1:
        return True
    if most == 0:
        return False
    for row, look in zip(table, looks):
        if look[1] >= tick:
            groups = {shown: {number for number in lot if row[number] == shown} for shown in {row[own] for own in lot}}
            if all(has_plan(table, looks, group, most - 1, look[1]) for group in groups.values()):
                return True
    return False


def is_plan(table, looks, lot, most, tick, plan):
    """Whether a well-formed tuple is a PLAN, asked of each CASE by itself and of all that the PLAN names."""
    if plan == ():
        return len(lot) == 1
    if len(lot) == 1 or most == 0:
        return False
    number, branches = plan
    if looks[number][1] < tick:
        return False
    shown = sorted({table[number][own] for own in lot})
    if [branch[0] for branch in branches] != shown:
        return False
    return all(is_plan(table, looks, {own for own in lot if table[number][own] == value}, most - 1, looks[number][1],
                       branch) for value, branch in branches)


def is_doubt(table, looks, lot, most, tick, doubt):
    """Whether a well-formed pair is a DOUBT in a lot."""
    own, answers = doubt
    if len(own) < 2 or list(own) != sorted(set(own)) or not set(own) <= set(lot):
        return False
    if most == 0:
        return answers == ()
    if len(answers) != len(looks):
        return False
    for row, look, part_doubt in zip(table, looks, answers):
        if look[1] < tick:
            if part_doubt is not None:
                return False
        elif part_doubt is None or len({row[number] for number in part_doubt[0]}) > 1:
            return False
        elif not is_doubt(table, looks, own, most - 1, look[1], part_doubt):
            return False
    return True


def all_cases(seeds):
    for seed in seeds:
        cases, rules, told, looks = some_cases(seed)
        yield cases, rules, told, looks, table_of(cases, rules, told, looks)


RING = works_of(part(20, (6,), "w"), part(9, (), "", ((0, 5, 0),)), part(0, (), "d"))
CASES = ((RING, None), (RING, ("damp", 0)), (works_of(*(part(22, (6,), "w"),) + RING[1][1:]), None))


class Shapes(unittest.TestCase):
    def test_looks(self):
        for word in ("heat", "top", "coal"):
            for thing, expected in (((word, 1, 0), True), ((word, 60, 2), True), ((word, 10 ** 30, 0), True),
                                    ((word, 0, 0), False), ((word, -1, 0), False), ((word, 1, 3), False),
                                    ((word, 1, -1), False), ((word, True, 0), False), ((word, 1, False), False),
                                    ((word, 1), False), ((word, 1, 0, 0), False), ([word, 1, 0], False),
                                    ((word, None, 0), False), ((word, 1, None), False), ((word, "1", 0), False)):
                self.assertIs(is_look(thing, 3), expected, thing)
        for thing, expected in ((("flue", 1), True), (("flue", 99), True), (("flue", 0), False), (("flue", True), False),
                                (("flue", 1, 0), False), (("flue",), False), (["flue", 1], False), (("flue", None), False),
                                (None, False), (0, False), (True, False), ("flue", False), ((), False), (("burnt", 1), False),
                                (("wicket", 1, 0), False), ((("heat",), 1, 0), False), ((1, "flue"), False)):
            self.assertIs(is_look(thing, 3), expected, thing)
        self.assertIs(is_look(("heat", 1, 11), 12), True)


class Shown(unittest.TestCase):
    def test_by_hand(self):
        rows = {("heat", 1, 0): 16, ("heat", 1, 1): 10, ("heat", 1, 2): 5, ("coal", 1, 0): 0, ("top", 1, 1): 10,
                ("flue", 1): 4, ("flue", 2): 11, ("top", 1, 0): 0}
        for look, shown in rows.items():
            self.assertEqual(shown_by(CASES[0], (), (), look), shown, look)
        # The flue of the ledger, with what stood there at first.
        other = (RING[0], RING[1], (0, 100, 0, 0, 0, 0, 0))
        self.assertEqual(shown_by((other, None), (), (), ("flue", 1)), 104)

    def test_against_the_runs(self):
        for cases, rules, told, looks, table in all_cases(range(250)):
            for look, row in zip(looks, table):
                for number, case in enumerate(cases):
                    self.assertTrue(strictly(shown_by(case, rules, told, look), row[number]))
                expected = [(shown, tuple(number for number in range(len(cases)) if row[number] == shown))
                            for shown in sorted(set(row))]
                self.assertTrue(strictly(parted_by(cases, rules, told, look), expected))
                pairs = itertools.combinations(row, 2)
                self.assertEqual(worth_of(cases, rules, told, look), sum(one != other for one, other in pairs))

    def test_best_blind_and_least(self):
        sizes = set()
        for cases, rules, told, looks, table in all_cases(range(400)):
            pairs = list(itertools.combinations(range(len(cases)), 2))
            if looks:
                left = [max(row.count(shown) for shown in row) for row in table]
                self.assertEqual(best_look(cases, rules, told, looks), (min(left), left.index(min(left))))

            def blind(numbers):
                return tuple(pair for pair in pairs
                             if all(table[number][pair[0]] == table[number][pair[1]] for number in numbers))
            self.assertEqual(blind_pairs(cases, rules, told, looks), blind(range(len(looks))))
            sets = [numbers for size in range(len(looks) + 1)
                    for numbers in itertools.combinations(range(len(looks)), size)]
            expected = next(numbers for numbers in sets if blind(numbers) == blind(range(len(looks))))
            self.assertEqual(least_looks(cases, rules, told, looks), expected)
            sizes.add(len(expected))
        self.assertGreaterEqual(sizes, {0, 1, 2})

    def test_no_looks_and_one_case(self):
        self.assertEqual(blind_pairs(CASES, (), (), ()), ((0, 1), (0, 2), (1, 2)))
        self.assertEqual(least_looks(CASES, (), (), ()), ())
        self.assertIsNone(looks_needed(CASES, (), (), ()))
        self.assertEqual((blind_pairs(CASES[:1], (), (), ()), looks_needed(CASES[:1], (), (), ())), ((), 0))
        look = ("heat", 1, 0)
        self.assertEqual(best_look(CASES[:1], (), (), (look,)), (1, 0))
        self.assertEqual((worth_of(CASES[:1], (), (), look), least_looks(CASES[:1], (), (), (look,))), (0, ()))
        for most in (0, 1, 3):
            self.assertEqual(looks_plan(CASES[:1], (), (), (look,), most), ())
            self.assertEqual(answer(looks_doubt, CASES[:1], (), (), (look,), most), NONE)
            self.assertIs(is_looks_plan(CASES[:1], (), (), (look,), most, ()), True)
            self.assertIs(is_looks_plan(CASES[:1], (), (), (look,), most, (0, ((16, ()),))), False)
        same = CASES[:1] * 2
        self.assertEqual(answer(looks_plan, same, (), (), (look,), 3), NONE)
        self.assertEqual(looks_doubt(same, (), (), (), 2), ((0, 1), ()))
        self.assertEqual(looks_doubt(same, (), (), (look,), 0), ((0, 1), ()))


class Plans(unittest.TestCase):
    def test_a_plan_or_a_doubt(self):
        told_many = {}
        for cases, rules, told, looks, table in all_cases(range(1000)):
            lot = set(range(len(cases)))
            needed = None
            for most in range(4):
                plan = answer(looks_plan, cases, rules, told, looks, most)
                doubt = answer(looks_doubt, cases, rules, told, looks, most)
                if has_plan(table, looks, lot, most, 1):
                    needed = most if needed is None else needed
                    self.assertEqual(doubt, NONE)
                    self.assertTrue(is_plan(table, looks, lot, most, 1, plan))
                    self.assertIs(is_looks_plan(cases, rules, told, looks, most, plan), True)
                    self.assertIs(is_looks_doubt(cases, rules, told, looks, most, plan), False)
                    told_many["plan", most] = told_many.get(("plan", most), 0) + (needed == most)
                else:
                    self.assertEqual(plan, NONE)
                    self.assertTrue(is_doubt(table, looks, lot, most, 1, doubt))
                    self.assertIs(is_looks_doubt(cases, rules, told, looks, most, doubt), True)
                    self.assertIs(is_looks_plan(cases, rules, told, looks, most, doubt), False)
                    told_many["doubt", most] = told_many.get(("doubt", most), 0) + 1
            if needed is None and has_plan(table, looks, lot, len(looks), 1):
                needed = 4
            self.assertEqual(looks_needed(cases, rules, told, looks), needed)
        for key in [("plan", most) for most in range(3)] + [("doubt", most) for most in range(4)]:
            self.assertGreater(told_many.get(key, 0), 5, key)

    def test_all_orders_of_looks(self):
        # There is a PLAN of as many looks as there are exactly if all of them, in the order of ticks, part all.
        for cases, rules, told, looks, table in all_cases(range(200)):
            parts = len({tuple(row[number] for row in table) for number in range(len(cases))}) == len(cases)
            for order in itertools.permutations(range(len(looks))):
                own = tuple(looks[number] for number in order)
                self.assertIs(looks_needed(cases, rules, told, own) is not None, parts)
                self.assertEqual(looks_needed(cases, rules, told, own), looks_needed(cases, rules, told, looks))

    def test_ticks_never_fall(self):
        # What parts first is seen at tick 2; behind it no look at tick 1 is left.
        late, early = ("heat", 2, 0), ("heat", 1, 0)
        table = table_of(CASES, (), (), (late, early))
        self.assertEqual([len(set(row)) for row in table], [3, 3])
        plan = (0, tuple((shown, ()) for shown in sorted(set(table[0]))))
        self.assertIs(is_looks_plan(CASES, (), (), (late, early), 1, plan), True)
        dull = ("heat", 3, 2)
        cases = CASES[:1] + CASES[2:]
        row = table_of(cases, (), (), (late, early, dull))
        first, second = sorted(row[0])
        self.assertIs(is_looks_plan(cases, (), (), (late, early, dull), 2,
                                    (1, tuple((shown, ()) for shown in sorted(row[1])))), True)
        # A look that shows one number of all, and then one of a tick that is not below it, or is.
        blank = ("coal", 2, 2)
        inner = tuple((shown, ()) for shown in (first, second))
        self.assertIs(is_looks_plan(cases, (), (), (late, early, blank), 2, (2, ((0, (0, inner)),))), True)
        self.assertIs(is_looks_plan(cases, (), (), (late, early, blank), 1, (2, ((0, (0, inner)),))), False)
        outer = tuple((shown, ()) for shown in sorted(row[1]))
        self.assertIs(is_looks_plan(cases, (), (), (late, early, blank), 2, (2, ((0, (1, outer)),))), False)

    def test_spoilt_papers(self):
        answers = {True: 0, False: 0}
        for seed, (cases, rules, told, looks, table) in enumerate(all_cases(range(300))):
            lot = set(range(len(cases)))
            numbers = Numbers(seed)
            for most in (1, 2, 3):
                paper = answer(looks_plan, cases, rules, told, looks, most)
                if paper != NONE and paper != ():
                    number, branches = paper
                    for thing in ((numbers.below(len(looks)), branches), (number, branches[1:]),
                                  (number, branches[::-1]), (number, branches + branches[:1]),
                                  (number, tuple((shown + 1, plan) for shown, plan in branches)),
                                  (number, tuple((shown, ()) for shown, _ in branches))):
                        expected = is_plan(table, looks, lot, most, 1, thing)
                        self.assertIs(is_looks_plan(cases, rules, told, looks, most, thing), expected)
                        answers[expected] += 1
                paper = answer(looks_doubt, cases, rules, told, looks, most)
                if paper != NONE:
                    own, parts = paper
                    for thing in ((own[:2], parts), (own[1:], parts), (own, parts[1:]), (own, parts[::-1]), (own, ()),
                                  (own[::-1], parts), (own + (len(cases),), parts), (own, (None,) * len(parts)),
                                  ((own[0],) * 2, parts)):
                        expected = is_doubt(table, looks, lot, most, 1, thing)
                        self.assertIs(is_looks_doubt(cases, rules, told, looks, most, thing), expected, thing)
                        answers[expected] += 1
        self.assertGreater(min(answers.values()), 50)

    def test_things_that_are_none(self):
        looks = (("heat", 1, 0), ("coal", 1, 2))
        shown = [own for own, _ in parted_by(CASES, (), (), looks[0])]
        good = (0, tuple((own, ()) for own in shown))
        self.assertIs(is_looks_plan(CASES, (), (), looks, 1, good), True)
        for thing in (None, 0, True, "", (), [], list(good), listed(good), (False, good[1]), (-2, good[1]), (2, good[1]),
                      (0,), good + (0,), (0, list(good[1])), (0, None), (0, good[1][:2]), (None, good[1]),
                      (0, good[1] + ((99, ()),)), (0, (list(good[1][0]),) + good[1][1:]),
                      (0, ((shown[0], []),) + good[1][1:]), (0, ((shown[0], None),) + good[1][1:]),
                      (0, ((str(shown[0]), ()),) + good[1][1:]), (0, ((shown[0],),) + good[1][1:])):
            self.assertIs(is_looks_plan(CASES, (), (), looks, 1, thing), False, thing)
        # One below the first look would be the last one, as Python counts.
        self.assertIs(is_looks_plan(CASES, (), (), looks[::-1], 1, (1, good[1])), True)
        self.assertIs(is_looks_plan(CASES, (), (), looks[::-1], 1, (-1, good[1])), False)
        blind = looks[1:]
        doubt = ((0, 1), (((0, 1), ()),))
        for thing in ((0, 2, 1), (1, 0, 2), (0, True), (False, 1), (0, 1, 3), (-1, 0, 1)):
            self.assertIs(is_looks_doubt(CASES, (), (), blind, 0, (thing, ())), False, thing)
            self.assertIs(is_looks_doubt(CASES, (), (), blind, 1, (thing, doubt[1])), False, thing)
        for good in (doubt, ((0, 1, 2), (((0, 2), ()),)), ((0, 1, 2), (((0, 1, 2), ()),))):
            self.assertIs(is_looks_doubt(CASES, (), (), blind, 1, good), True)
        for thing in (None, 0, True, "", (), [], list(doubt), listed(doubt), ((0,), doubt[1]), ((), doubt[1]),
                      ((1, 0), doubt[1]), ((0, 0), doubt[1]), ((0, 3), doubt[1]), ((-1, 0), doubt[1]),
                      ((False, True), doubt[1]), ([0, 1], doubt[1]), (None, doubt[1]), ((0, None), doubt[1]), doubt[:1],
                      doubt + ((),), ((0, 1), ()), ((0, 1), (None,)), ((0, 1), doubt[1] * 2), ((0, 1), list(doubt[1])),
                      ((0, 1), (((0, 2), ()),)), ((0, 1), (((0, 1),),)), ((0, 1), (((0, 1), (None,)),)), ((0, 1), None)):
            self.assertIs(is_looks_doubt(CASES, (), (), blind, 1, thing), False, thing)
        # With heat seen at tick 1 all three are parted: two of which it shows one number are wanted.
        self.assertIs(is_looks_doubt(CASES, (), (), looks, 1, ((0, 1), (((0, 1), ()), ((0, 1), ())))), False)

    def test_none_for_looks_behind_the_tick(self):
        looks = (("coal", 1, 2), ("coal", 2, 2))
        good = ((0, 1), (((0, 1), (((0, 1), ()), ((0, 1), ()))), ((0, 1), (None, ((0, 1), ())))))
        self.assertIs(is_looks_doubt(CASES[:2], (), (), looks, 2, good), True)
        self.assertEqual(looks_doubt(CASES[:2], (), (), looks, 2), good)
        bad = ((0, 1), (good[1][0], ((0, 1), (((0, 1), ()), ((0, 1), ())))))
        self.assertIs(is_looks_doubt(CASES[:2], (), (), looks, 2, bad), False)
        bad = ((0, 1), (((0, 1), (None, ((0, 1), ()))), good[1][1]))
        self.assertIs(is_looks_doubt(CASES[:2], (), (), looks, 2, bad), False)


class Errors(unittest.TestCase):
    def test_the_first_look_whose_chamber_is_none(self):
        for number in (-1, 3, 99):
            bad = ("coal", 2, number)
            looks = (("flue", 1), ("heat", 1, 2), bad, ("heat", 1, 7))
            error = raised("NoChamber", number)
            self.assertEqual(answer(shown_by, CASES[0], (), (), bad), error)
            for function in (parted_by, worth_of):
                self.assertEqual(answer(function, CASES, (), (), bad), error)
            for cases in (CASES, CASES[:1]):
                for function in (best_look, blind_pairs, least_looks, looks_needed):
                    self.assertEqual(answer(function, cases, (), (), looks), error)
                for most in (0, 2):
                    for function in (looks_plan, looks_doubt):
                        self.assertEqual(answer(function, cases, (), (), looks, most), error)
                    for function in (is_looks_plan, is_looks_doubt):
                        for thing in (None, (), ((0, 1), ())):
                            self.assertEqual(answer(function, cases, (), (), looks, most, thing), error)


class Guarantees(unittest.TestCase):
    def test_lists_too(self):
        for seed in range(60):
            cases, rules, told, looks = some_cases(seed)
            for function in (blind_pairs, least_looks, looks_needed):
                self.assertTrue(strictly(function(listed(cases), listed(rules), listed(told), listed(looks)),
                                         function(cases, rules, told, looks)))
            self.assertTrue(strictly(answer(looks_plan, listed(cases), listed(rules), listed(told), listed(looks), 2),
                                     answer(looks_plan, cases, rules, told, looks, 2)))


if __name__ == "__main__":
    unittest.main()
