"""starts.py: [20]. Each START is played by a second reading (tests/oracle.py), all woods and rows gone through."""

import itertools
import unittest

from ringkiln.starts import (catches_at, fails_at, first_round, is_start, is_start_paper, least_wood, start_at,
                             start_paper, start_rows, wood_saved)
from tests import oracle
from tests.graphs import small_rules, small_works
from tests.support import NOUGHTS, Numbers, answer, kept, listed, lively_rules, lively_works, raised, strictly
from tests.test_back import part, works_of
from tests.test_repairs import catches

NONE = raised("NoPaper")
MADE = (((2, 1, 100),), 0, 8, 6, 50, 0)
SHUT = (None, 0, 0, (), False, False, True)
STOVE = (MADE, ((None, 0, 0, (8, 8), True, True, True), SHUT, SHUT), NOUGHTS)


def cold_works(seed):
    """A small WORKS that is often out, with coal and doors such that wood may light it."""
    numbers = Numbers(seed * 61 + 17)
    make = (((6, 1, 90),), 0, 6 + numbers.below(4), 8, 70, numbers.one_of((0, 0, 5, 9)))
    chambers = []
    for _ in range(3 + numbers.below(2)):
        coal = tuple(sorted(4 + numbers.below(9) for _ in range(numbers.below(3))))
        load = numbers.one_of((None, ((0, 5, 0),)))
        chambers.append((load, numbers.below(5), 0, coal, numbers.below(2) == 0, numbers.below(2) == 0,
                         numbers.below(3) == 0))
    rules = ((), ((0, (("pieces", 1),), ("coal", (7,))),), ((0, (), ("brick",)), (1, (), ("damper", True))),
             ((-1, (), ("brick",)), (0, (("below", 9),), ("coal", (9,)))))
    return (make, tuple(chambers), NOUGHTS), numbers.one_of(rules)


def some_case(seed):
    """A WORKS, RULES, and how many ticks."""
    way = seed % 4
    if way < 2:
        works, rules = cold_works(seed)
    elif way == 2:
        works, rules = small_works(seed), small_rules(seed, small_works(seed)[0])
    else:
        works, rules = lively_works(seed), lively_rules(seed)
    return works, rules, 1 + Numbers(seed * 5 + 2).below(6)


def start_run(works, rules, number, heats, many):
    """The list of the WORKS behind 0, 1, .. many ticks of the run of a START."""
    told = tuple((tick + 1, ("wood", number, heat)) for tick, heat in enumerate(heats) if heat)
    return oracle.run_told(works, rules, told, (), many)[0]


def fails(works, rules, number, heats, many):
    rows = start_run(works, rules, number, heats, many)
    if not oracle.is_out(rows[-1]):
        return None
    return [tick for tick in range(1, many + 1) if tick >= len(heats) and oracle.is_out(rows[tick])][0]


class Starts(unittest.TestCase):
    def test_against_the_second_reading(self):
        seen = {"holds": 0, "fails": 0, "later": 0, "round": 0, "no round": 0}
        for seed in range(320):
            works, rules, many = some_case(seed)
            numbers = Numbers(seed)
            for number in range(len(works[1])):
                for _ in range(3):
                    heats = tuple(numbers.one_of((0, 3, 9, 20, 40)) for _ in range(numbers.below(many + 1)))
                    start = (number, heats)
                    expected = fails(works, rules, number, heats, many)
                    self.assertTrue(strictly(fails_at(works, rules, start, many), expected))
                    self.assertIs(is_start(works, rules, many, start), expected is None)
                    rows = start_run(works, rules, number, heats, many)
                    caught = tuple((own, catches(rows, own)[0]) for own in range(len(works[1])) if catches(rows, own))
                    self.assertTrue(strictly(catches_at(works, rules, start, many), caught))
                    first = [tick for tick in range(1, many + 1) if all(any(
                        oracle.is_hot(row, own) for row in rows[1:tick + 1]) for own in range(len(works[1])))]
                    self.assertTrue(strictly(first_round(works, rules, start, many), (first + [None])[0]))
                    seen["holds" if expected is None else "fails"] += 1
                    seen["later"] += expected is not None and expected > max(1, len(heats))
                    seen["round" if first else "no round"] += 1
        self.assertGreater(min(seen.values()), 40, seen)

    def test_rows_that_are_nothing(self):
        for rows in ((), (0,), (0, 0, 0)):
            self.assertEqual(fails_at(STOVE, (), (0, rows), 3), max(1, len(rows)))
            self.assertEqual(catches_at(STOVE, (), (0, rows), 3), ())
            self.assertIsNone(first_round(STOVE, (), (0, rows), 3))
        # It fails at no tick ahead of the last of rows, be that a 0, though it is out long before.
        self.assertEqual([fails_at(STOVE, (), (0, (14,) + (0,) * many), 6) for many in range(6)], [1, 2, 3, 4, 5, 6])
        self.assertEqual([fails_at(STOVE, (), (0, (15,) + (0,) * many), 6) for many in range(6)], [4, 4, 4, 4, 5, 6])
        burning = works_of(part(9), part(), part(), make=MADE)
        self.assertIsNone(fails_at(burning, (), (1, ()), 3))
        self.assertIs(is_start(burning, (), 3, (1, ())), True)

    def test_a_number_of_rows_as_many_as_ticks(self):
        self.assertIsNone(fails_at(STOVE, (), (1, (0, 0, 8)), 3))
        self.assertEqual(fails_at(STOVE, (), (1, (0, 0, 7)), 3), 3)
        self.assertIs(is_start(STOVE, (), 3, (1, (0, 0, 8))), True)
        self.assertIs(is_start(STOVE, (), 2, (1, (0, 0, 8))), False)

    def test_a_fire_of_all(self):
        works = works_of(part(9), part(9), part(9), make=MADE)
        for rows in ((), (0, 5), (30,)):
            self.assertIsNone(fails_at(works, ((0, (), ("brick",)),), (1, rows), 2))
            self.assertEqual(catches_at(works, (), (1, rows), 2), ())
            self.assertEqual(first_round(works, (), (1, rows), 2), 1)
        self.assertEqual((least_wood(works, (), 2, 3, 5), start_at(works, (), 3, 5)), (0, (0, 0)))

    def test_wood_ahead_of_rules(self):
        # Wood is put in at step 1: the RULES of this tick see the front.
        rules = ((0, (), ("brick",)),)
        works = works_of(part(0, (), "wd"), part(), part(), make=MADE)
        self.assertIsNone(fails_at(works, rules, (0, (8,)), 1))
        self.assertEqual(fails_at(works, (), (0, (8,)), 1), 1)

    def test_catches(self):
        # Hot when the run begins: it catches only if it falls first. Wood counts to the tick in which it is put in.
        works = works_of(part(8), part(7), part(16, (), "wd"), make=MADE)
        self.assertEqual(catches_at(works, (), (1, (1,)), 3), ((1, 1),))
        self.assertEqual(catches_at(works, (), (2, (0, 0, 20)), 3), ((2, 3),))
        self.assertEqual(catches_at(works, (), (2, (0, 20)), 3), ())
        self.assertEqual(first_round(works, (), (1, (0, 1)), 3), 2)
        self.assertIsNone(first_round(works, (), (1, (0, 0)), 3))
        self.assertEqual(first_round(works_of(part(8), part(8), part(8), make=MADE), (), (0, ()), 1), 1)


class Woods(unittest.TestCase):
    def test_against_all_woods(self):
        seen = {"wood": 0, "none": 0, "more": 0}
        for seed in range(160):
            works, rules, many = some_case(seed)
            most = 4 + seed % 23
            holding = []
            for number in range(len(works[1])):
                ticks = [fails(works, rules, number, (wood,), many) for wood in range(most + 1)]
                woods = [wood for wood, tick in enumerate(ticks) if tick is None]
                holding += [(wood, number) for wood in woods]
                arguments = (works, rules, number, many, most)
                self.assertTrue(strictly(answer(least_wood, *arguments), woods[0] if woods else NONE))
                self.assertTrue(strictly(answer(start_paper, *arguments), NONE if woods else tuple(ticks)))
                self.assertIs(is_start_paper(*arguments, tuple(ticks)), not woods)
                self.assertIs(is_start_paper(*arguments, tuple(ticks[:-1])), False)
                seen["wood" if woods else "none"] += 1
                seen["more"] += bool(woods) and len(woods) < most + 1 - woods[0]
            self.assertTrue(strictly(answer(start_at, works, rules, many, most), min(holding) if holding else NONE))
        self.assertGreater(min(seen.values()), 3, seen)

    def test_most_0(self):
        burning = works_of(part(9), part(), part(), make=MADE)
        for number in range(3):
            self.assertEqual(least_wood(burning, (), number, 3, 0), 0)
            self.assertEqual(answer(start_paper, burning, (), number, 3, 0), NONE)
            self.assertEqual(answer(least_wood, STOVE, (), number, 3, 0), NONE)
            self.assertEqual(start_paper(STOVE, (), number, 3, 0), (1,))
            self.assertIs(is_start_paper(STOVE, (), number, 3, 0, (1,)), True)
            self.assertIs(is_start_paper(STOVE, (), number, 3, 0, (2,)), False)
        self.assertEqual(start_at(burning, (), 3, 0), (0, 0))
        self.assertEqual(answer(start_at, STOVE, (), 3, 0), NONE)
        self.assertEqual(start_rows(burning, (), 1, 3, 3, 0), ((0, 0, 0),))
        self.assertEqual(start_rows(STOVE, (), 1, 3, 3, 0), ())
        self.assertEqual((wood_saved(burning, (), 1, 3, 3, 0), wood_saved(STOVE, (), 1, 3, 3, 0)), (0, None))

    def test_most_itself(self):
        self.assertEqual((least_wood(STOVE, (), 1, 3, 8), answer(least_wood, STOVE, (), 1, 3, 7)), (8, NONE))
        self.assertEqual((start_paper(STOVE, (), 1, 3, 7), answer(start_paper, STOVE, (), 1, 3, 8)), ((1,) * 8, NONE))


class Rows(unittest.TestCase):
    def test_against_all_rows(self):
        seen = {"some": 0, "none": 0, "several": 0, "saved": 0}
        for seed in range(110):
            works, rules, many = some_case(seed)
            numbers = Numbers(seed * 3 + 2)
            long = 1 + numbers.below(min(many, 3))
            most = (30, 14, 5)[long - 1] - numbers.below(3)
            number = numbers.below(len(works[1]))
            holding = [row for row in itertools.product(range(most + 1), repeat=long)
                       if fails(works, rules, number, row, many) is None]
            least = min(map(sum, holding)) if holding else None
            expected = tuple(row for row in holding if sum(row) == least)
            arguments = (works, rules, number, many, long, most)
            self.assertTrue(strictly(start_rows(*arguments), expected))
            woods = [wood for wood in range(most + 1) if fails(works, rules, number, (wood,), many) is None]
            self.assertTrue(strictly(wood_saved(*arguments), woods[0] - least if woods else None))
            seen["some" if holding else "none"] += 1
            seen["several"] += len(expected) > 1
            seen["saved"] += bool(woods) and woods[0] > least
        self.assertGreater(min(seen.values()), 1, seen)

    def test_long_1(self):
        for most in (0, 14, 15, 20, 3999):
            self.assertEqual(start_rows(STOVE, (), 0, 3, 1, most), ((15,),) if most >= 15 else ())
            self.assertEqual(wood_saved(STOVE, (), 0, 3, 1, most), 0 if most >= 15 else None)

    def test_rows_that_hold_without_one_wood(self):
        # Without coal the heat of CHAMBER 0 is halved at each tick, what is odd in its favour.
        works = works_of(part(0, (), "wd"), part(), part(), make=MADE)
        self.assertEqual(answer(least_wood, works, (), 0, 3, 14), NONE)
        self.assertEqual(start_rows(works, (), 0, 3, 3, 14), ((0, 1, 14), (1, 0, 14)))
        self.assertIsNone(wood_saved(works, (), 0, 3, 3, 14))
        self.assertEqual(start_rows(works, (), 0, 3, 2, 16), ())
        self.assertIsNone(wood_saved(works, (), 0, 3, 2, 16))
        self.assertEqual(start_rows(works, (), 0, 2, 2, 15), ((0, 15), (1, 14)))
        self.assertEqual((least_wood(works, (), 0, 2, 40), wood_saved(works, (), 0, 2, 2, 40)), (29, 14))

    def test_too_many(self):
        for long, most, is_over in ((1, 3999, False), (1, 4000, True), (2, 62, False), (2, 63, True), (3, 14, False),
                                    (3, 15, True), (11, 1, False), (12, 1, True), (60, 0, False), (60, 200, True)):
            many = max(long, 2)
            burning = works_of(part(9), part(), part(), make=MADE)
            self.assertEqual(answer(start_rows, burning, (), 0, many, long, most),
                             raised("TooMany") if is_over else ((0,) * long,))
            self.assertEqual(answer(wood_saved, burning, (), 0, many, long, most), raised("TooMany") if is_over else 0)
            for number in (-1, 3):
                self.assertEqual(answer(start_rows, burning, (), number, many, long, most), raised("NoChamber", number))
                self.assertEqual(answer(wood_saved, burning, (), number, many, long, most), raised("NoChamber", number))
        # Ahead of None, too.
        self.assertEqual(answer(wood_saved, STOVE, (), 0, 3, 3, 20), raised("TooMany"))


class Errors(unittest.TestCase):
    def test_chamber_first(self):
        for number in (-1, 3, 99):
            for function in (fails_at, catches_at, first_round):
                for rows in ((), (0,), (9, 9)):
                    self.assertEqual(answer(function, STOVE, (), (number, rows), 3), raised("NoChamber", number))
            for most in (0, 30):
                for function in (least_wood, start_paper):
                    self.assertEqual(answer(function, STOVE, (), number, 3, most), raised("NoChamber", number))
                for thing in (None, (1,), [1]):
                    self.assertEqual(answer(is_start_paper, STOVE, (), number, 3, most, thing),
                                     raised("NoChamber", number))
            self.assertIs(is_start(STOVE, (), 3, (number, (99,))), False)

    def test_things(self):
        self.assertIs(is_start(STOVE, (), 3, (1, (8,))), True)
        for thing in ([1, (8,)], (1, [8]), (True, (8,)), (1, (8, True)), (1, (8, -1)), (1, (8, None)), (1, 8), (1,), (1, (8,), 0),
                      ((1, (8,)),), None, 1, "", (), (1, (7,)), (1, (8, 0, 0, 0)), ("1", (8,)), (1, ("8",)), (1, ((8,),))):
            self.assertIs(is_start(STOVE, (), 3, thing), False, thing)
        own = start_paper(STOVE, (), 0, 3, 3)
        self.assertEqual(own, (1, 1, 1, 1))
        for thing in (list(own), own[1:], own + own[:1], (1, 1, 1, 2), (1, 1, 1, True), None, 0, True, "", (), (own,),
                      (1, 1, 1, None), (0, 0, 0, 0), (0, (15,))):
            self.assertIs(is_start_paper(STOVE, (), 0, 3, 3, thing), False, thing)
        # Where some wood holds nothing is a COLD LIST.
        for thing in ((1,) * 9, (1,) * 8 + (None,), (1,) * 8, ()):
            self.assertIs(is_start_paper(STOVE, (), 1, 3, 8, thing), False, thing)

    def test_lists_and_what_is_handed_in(self):
        for seed in range(30):
            works, rules, many = some_case(seed)
            own = [listed(works), listed(rules), [0, [9] * many], many]
            before = kept(own)
            for function in (fails_at, catches_at, first_round):
                self.assertTrue(strictly(function(*own), function(works, rules, (0, (9,) * many), many)))
                self.assertEqual(own, before)


if __name__ == "__main__":
    unittest.main()
