"""back.py: [17]. Each GUESS is played by itself by the second reading (tests/oracle.py)."""

import itertools
import unittest

from ringkiln.back import (case_of, faults_that_fit, flue_row, guesses_by_flue, guesses_that_fit, heats_left, is_fault,
                           is_misfit, misfit, run_with, starts_that_fit, sure_fault, sure_heat)
from ringkiln.runs import run
from tests import oracle
from tests.graphs import small_rules, small_works
from tests.support import (NOUGHTS, Numbers, answer, listed, lively_rules, lively_works, raised, some_rules, some_told,
                           some_works, strictly)

MAKE = (((20, 3, 90),), 0, 4, 4, 30, 0)
NONE = raised("NoPaper")
FITTED = (faults_that_fit, starts_that_fit, sure_fault)
WARE = ((0, 5, 0),)


def part(heat=0, coal=(), doors="", load=None, top=0):
    return load, heat, top, coal, "w" in doors, "d" in doors, "s" in doors


def works_of(*chambers, make=MAKE):
    return make, chambers, NOUGHTS


def some_fault(numbers, many):
    word = numbers.one_of((None, "damper", "screen", "wicket", "leak", "damp"))
    return None if word is None else (word, numbers.below(many))


def some_play(seed):
    """A PLAY of a small WORKS, with told DEEDS of which many cannot be done."""
    numbers = Numbers(seed * 29 + 6)
    way = seed % 3
    if way == 0:
        works = some_works(seed)
        rules = some_rules(seed, works[0])
    elif way == 1:
        works, rules = small_works(seed), small_rules(seed, some_works(seed)[0])
    else:
        works, rules = lively_works(seed), lively_rules(seed)
    many = 1 + numbers.below(6)
    return works, rules, some_told(seed, works, many), many


def some_unknown(seed, works):
    numbers = Numbers(seed * 37 + 8)
    ring = len(works[1])
    chambers = [numbers.below(ring)]
    if numbers.below(2):
        chambers.append((chambers[0] + 1 + numbers.below(ring - 1)) % ring)
    begun = tuple((number, tuple(sorted({numbers.below(50) for _ in range(1 + numbers.below(3))})))
                  for number in chambers[:numbers.below(3)])
    return begun, tuple(some_fault(numbers, ring) for _ in range(1 + numbers.below(4)))


def plain_guesses(play, unknown):
    """A dict with the rows of the run of each GUESS, in order."""
    works, rules, told, many = play
    begun, faults = unknown
    runs = {}
    for start in itertools.product(*[heats for _, heats in begun]):
        for fault in range(len(faults)):
            ring = [list(chamber) for chamber in works[1]]
            for (number, _), heat in zip(begun, start):
                ring[number][1] = heat
                ring[number][2] = 0 if ring[number][0] is None else heat
            begins = (works[0], tuple(map(tuple, ring)), works[2])
            runs[start, fault] = oracle.run_case(begins, faults[fault], rules, told, many)
    return runs


def top_of(rows, number):
    return rows[-1][1][number][2]


def some_readings(seed, works, runs):
    """READINGS that some GUESS fits, or nearly so."""
    numbers = Numbers(seed * 41 + 9)
    rows = numbers.one_of(list(runs.values()))
    readings = []
    for _ in range(numbers.below(4)):
        number = numbers.below(len(works[1]))
        readings.append((number, top_of(rows, number) + (numbers.below(5) == 0)))
    return tuple(readings)


def cases(seeds):
    for seed in seeds:
        play = some_play(seed)
        unknown = some_unknown(seed, play[0])
        runs = plain_guesses(play, unknown)
        yield play, unknown, some_readings(seed, play[0], runs), runs


class Shapes(unittest.TestCase):
    def test_faults(self):
        for word in ("damper", "screen", "wicket", "leak", "damp"):
            for number in (0, 2):
                self.assertIs(is_fault(3, (word, number)), True)
            for thing in ((word, 3), (word, -1), (word, True), (word, None), (word,), (word, 0, 0), [word, 0], (word, "0"),
                          (word, (0,)), word, ((word, 0),)):
                self.assertIs(is_fault(3, thing), False, thing)
            self.assertIs(is_fault(12, (word, 11)), True)
        for thing in (None, 0, True, "", (), ("coal", 0), ("brick", 1), ("open", 1), (None, 0), (("damp",), 0), (0, "damp"),
                      ([], 0), ("Damp", 0)):
            self.assertIs(is_fault(3, thing), False, thing)


class Faults(unittest.TestCase):
    LANE = works_of(part(20, (), "w"), part(16, (9, 9)), part(0, (), "d"))

    def heats(self, fault, works=None, rules=(), told=(), many=1):
        return [own[1] for own in run_with((works or self.LANE, fault), rules, told, many)[1]]

    def test_damp(self):
        self.assertEqual(self.heats(None), [10, 22, 7])
        self.assertEqual(self.heats(("damp", 1)), [10, 13, 7])
        self.assertEqual(self.heats(("damp", 0)), [10, 22, 7])
        behind = run_with((self.LANE, ("damp", 1)), (), (), 1)
        self.assertEqual((behind[1][1][3], behind[2]), ((9, 9), (1, 6, 0, 0, 0, 0, 0)))
        self.assertEqual(flue_row((self.LANE, ("damp", 1)), (), (), 1), (6,))

    def test_leak(self):
        walled = works_of(part(20, (), "ws"), part(16, (9, 9)), part(0, (), "d"))
        self.assertEqual(self.heats(None, walled), [20, 16, 0])
        self.assertEqual(self.heats(("leak", 0), walled), [10, 22, 7])
        self.assertEqual(self.heats(("leak", 1), walled), [20, 16, 0])
        self.assertEqual(self.heats(("leak", 0)), [10, 22, 7])
        # The screen is whole all the same: it can be torn, TESTS see it.
        behind = run_with((walled, ("leak", 0)), ((0, (("screen", True),), ("coal", (2,))),), ((1, ("screen", 0, False)),), 1)
        self.assertIs(behind[1][0][6], False)
        for yes, heats in ((True, [12, 22, 7]), (False, [10, 22, 7])):
            self.assertEqual(self.heats(("leak", 0), walled, ((-1, (("screen", yes),), ("coal", (2,))),)), heats)
        torn = works_of(part(40, (), "s"), part(), part())
        self.assertIs(run_with((torn, ("leak", 0)), (), (), 1)[1][0][6], False)

    def test_a_screen_that_stays(self):
        torn = works_of(part(40, (), "s"), part(), part(40))
        behind = run_with((torn, ("screen", 0)), (), (), 3)
        self.assertEqual([own[6] for own in behind[1]], [True, False, False])
        self.assertEqual([own[6] for own in run_with((torn, None), (), (), 1)[1]], [False, False, False])
        told = ((1, ("screen", 0, False)), (2, ("screen", 1, True)), (2, ("screen", 2, True)))
        behind = run_with((torn, ("screen", 0)), ((0, (), ("screen", False)),), told, 2)
        self.assertEqual([own[6] for own in behind[1]], [True, True, False])
        gone = works_of(part(0), part(), part())
        self.assertIs(run_with((gone, ("screen", 0)), (), ((1, ("screen", 0, True)),), 1)[1][0][6], False)

    def test_a_damper_that_stays(self):
        told = ((1, ("damper", 2, False)), (1, ("damper", 1, True)))
        self.assertEqual(self.heats(("damper", 2), told=told), [10, 22, 0])
        behind = run_with((self.LANE, ("damper", 2)), (), told, 1)
        self.assertEqual([own[5] for own in behind[1]], [False, True, True])
        behind = run_with((self.LANE, ("damper", 2)), ((1, (), ("damper", False)), (0, (), ("damper", True))), (), 1)
        self.assertEqual([own[5] for own in behind[1]], [False, True, True])

    def test_a_wicket_that_stays(self):
        told = ((1, ("brick", 0)), (1, ("open", 2)), (2, ("open", 1)))
        behind = run_with((self.LANE, ("wicket", 0)), (), told, 2)
        self.assertEqual([own[4] for own in behind[1]], [True, True, True])
        behind = run_with((self.LANE, ("wicket", 2)), ((-1, (), ("brick",)), (1, (), ("open",))), told, 1)
        self.assertEqual([own[4] for own in behind[1]], [False, False, False])
        # Other DEEDS at the CHAMBER are done.
        told = ((1, ("damper", 0, True)), (1, ("coal", 0, (3,))))
        behind = run_with((self.LANE, ("wicket", 0)), (), told, 1)
        self.assertEqual((behind[1][0][5], behind[1][0][1]), (True, 13))

    def test_told_deeds_that_cannot_be_done_are_passed_over(self):
        told = ((1, ("draw", 0)), (1, ("open", 0)), (1, ("coal", 1, ())), (1, ("wood", 1, 0)), (1, ("clear", 2)),
                (1, ("damper", 2, True)), (1, ("set", 0, ((0, 5),))), (1, ("wood", 2, 4)), (1, ("coal", 9, (3,))),
                (1, ("set", 1, ((3, 1),))), (1, ("coal", 3, (3,))), (1, ("wood", -1, 5)), (1, ("damper", -3, True)),
                (5, ("wood", 0, 1)))
        self.assertEqual(self.heats(None, told=told), [10, 22, 9])
        self.assertEqual(run_with((self.LANE, None), (), told, 1), run(self.LANE, (), ((1, ("wood", 2, 4)),), (), 1))

    def test_told_green_of_no_kind(self):
        works = works_of(part(0, (), "w"), part(8), part())
        for kinds in ((1,), (0, 1), (-1,), (0, -1), (9,)):
            told = ((1, ("set", 0, tuple((kind, 5) for kind in kinds))),)
            self.assertIsNone(run_with((works, None), (), told, 1)[1][0][0])
        self.assertEqual(run_with((works, None), (), ((1, ("set", 0, ((0, 5),))),), 1)[1][0][0], ((0, 5, 0),))

    def test_without_a_fault_it_is_the_run(self):
        for seed in range(200):
            works, rules, told, many = some_play(seed)
            expected = oracle.run_told(works, rules, told, (), many)
            if expected is not None:
                self.assertTrue(strictly(run_with((works, None), rules, told, many), expected[0][-1]))

    def test_all_faults_against_the_second_reading(self):
        changed = {}
        for seed in range(1200):
            works, rules, told, many = some_play(seed)
            fault = some_fault(Numbers(seed), len(works[1]))
            if fault is not None and fault[0] == "leak":
                walled = works[1][fault[1]][:6] + (True,)
                works = (works[0], works[1][:fault[1]] + (walled,) + works[1][fault[1] + 1:], works[2])
            rows = oracle.run_case(works, fault, rules, told, many)
            self.assertTrue(strictly(run_with((works, fault), rules, told, many), rows[-1]))
            flues = tuple(later[2][1] - row[2][1] for row, later in zip(rows, rows[1:]))
            self.assertTrue(strictly(flue_row((works, fault), rules, told, many), flues))
            if fault is not None and rows != oracle.run_case(works, None, rules, told, many):
                changed[fault[0]] = changed.get(fault[0], 0) + 1
        self.assertEqual(sorted(changed), ["damp", "damper", "leak", "screen", "wicket"])
        self.assertGreater(min(changed.values()), 5)


class Cases(unittest.TestCase):
    def test_case_of(self):
        works = works_of(part(9, (), "", WARE, 30), part(8), part(7, (), "", 60, 70))
        unknown = (((2, (1, 5)), (0, (3, 90)), (1, (4,))), (None, ("leak", 2), None))
        play = (works, (), (), 3)
        self.assertEqual(case_of(play, unknown, ((5, 3, 4), 1)),
                         (works_of(part(3, (), "", WARE, 3), part(4), part(5, (), "", 60, 5)), ("leak", 2)))
        self.assertEqual(case_of(play, ((), (None, ("leak", 2), None)), ((), 2)), (works, None))

    def test_each_guess_is_one_run(self):
        for play, unknown, _, runs in cases(range(150)):
            for guess, rows in runs.items():
                case = case_of(play, unknown, guess)
                self.assertTrue(strictly(case[0], rows[0]))
                self.assertEqual(case[1], unknown[1][guess[1]])
                self.assertTrue(strictly(run_with(case, play[1], play[2], play[3]), rows[-1]))


class Guesses(unittest.TestCase):
    def test_against_all_guesses(self):
        told = {"some": 0, "none": 0, "sure": 0, "unsure": 0}
        for play, unknown, readings, runs in cases(range(350)):
            fitting = {guess: rows for guess, rows in runs.items()
                       if all(top_of(rows, number) == top for number, top in readings)}
            self.assertTrue(strictly(guesses_that_fit(play, unknown, readings), tuple(fitting)))
            if not fitting:
                told["none"] += 1
                for function in FITTED:
                    self.assertEqual(answer(function, play, unknown, readings), NONE)
                for function in (sure_heat, heats_left):
                    self.assertEqual(answer(function, play, unknown, readings, 0, 0), NONE)
                continue
            told["some"] += 1
            faults = tuple(sorted({fault for _, fault in fitting}))
            self.assertEqual(faults_that_fit(play, unknown, readings), faults)
            self.assertTrue(strictly(starts_that_fit(play, unknown, readings),
                                     tuple(sorted({start for start, _ in fitting}))))
            self.assertEqual(sure_fault(play, unknown, readings), faults[0] if len(faults) == 1 else None)
            for number in range(len(play[0][1])):
                for tick in (0, 1, play[3]):
                    heats = tuple(sorted({rows[tick][1][number][1] for rows in fitting.values()}))
                    self.assertEqual(heats_left(play, unknown, readings, number, tick), heats)
                    self.assertEqual(sure_heat(play, unknown, readings, number, tick),
                                     heats[0] if len(heats) == 1 else None)
                    told["sure" if len(heats) == 1 else "unsure"] += 1
        self.assertGreater(min(told.values()), 40)

    def test_no_readings(self):
        for play, unknown, _, runs in cases(range(60)):
            self.assertEqual(guesses_that_fit(play, unknown, ()), tuple(runs))
            self.assertEqual(faults_that_fit(play, unknown, ()), tuple(range(len(unknown[1]))))
            self.assertEqual(answer(misfit, play, unknown, ()), NONE)
            for thing in ((), (0,) * len(runs)):
                self.assertIs(is_misfit(play, unknown, (), thing), False)

    def test_nothing_unknown(self):
        play = (works_of(part(8, (), "", WARE, 9), part(), part()), (), (), 1)
        unknown = ((), (None,))
        self.assertEqual(guesses_that_fit(play, unknown, ((0, 9),)), (((), 0),))
        self.assertEqual(guesses_that_fit(play, unknown, ((0, 8),)), ())
        self.assertEqual(starts_that_fit(play, unknown, ((0, 9),)), ((),))
        self.assertEqual(sure_fault(play, unknown, ()), 0)
        self.assertEqual(misfit(play, unknown, ((0, 9), (1, 0), (0, 8))), (2,))
        # A reading is looked at at each place that it has; twice with unlike tops nothing fits.
        self.assertEqual(guesses_that_fit(play, unknown, ((0, 9), (0, 9))), (((), 0),))
        self.assertEqual(guesses_that_fit(play, unknown, ((0, 9), (0, 8))), ())

    def test_the_same_fault_twice(self):
        play = (works_of(part(8), part(), part()), (), (), 1)
        unknown = ((), (("damp", 0), ("damp", 0)))
        self.assertEqual(guesses_that_fit(play, unknown, ()), (((), 0), ((), 1)))
        self.assertIsNone(sure_fault(play, unknown, ()))

    def test_by_flue(self):
        found = nothing = 0
        for seed, (play, unknown, _, runs) in enumerate(cases(range(250))):
            numbers = Numbers(seed)
            flues = {guess: tuple(later[2][1] - row[2][1] for row, later in zip(rows, rows[1:]))
                     for guess, rows in runs.items()}
            row = tuple(None if numbers.below(3) == 0 else flue + (numbers.below(9) == 0)
                        for flue in numbers.one_of(list(flues.values())))
            expected = tuple(guess for guess, own in flues.items()
                             if all(told is None or told == flue for told, flue in zip(row, own)))
            self.assertTrue(strictly(guesses_by_flue(play, unknown, row), expected))
            self.assertEqual(guesses_by_flue(play, unknown, (None,) * play[3]), tuple(runs))
            found += len(expected) not in (0, len(runs))
            nothing += expected == ()
        self.assertGreater(found, 20)
        self.assertGreater(nothing, 20)


class Misfits(unittest.TestCase):
    def test_against_all_guesses(self):
        told = 0
        for seed, (play, unknown, readings, runs) in enumerate(cases(range(400))):
            readings = readings + ((seed % 3, seed % 40),)
            wrong = [[place for place, (number, top) in enumerate(readings) if top_of(rows, number) != top]
                     for rows in runs.values()]
            if not all(wrong):
                self.assertEqual(answer(misfit, play, unknown, readings), NONE)
                self.assertNotEqual(guesses_that_fit(play, unknown, readings), ())
                self.assertIs(is_misfit(play, unknown, readings, tuple(row[0] if row else 0 for row in wrong)), False)
                continue
            told += 1
            self.assertEqual(guesses_that_fit(play, unknown, readings), ())
            expected = tuple(row[0] for row in wrong)
            self.assertEqual(misfit(play, unknown, readings), expected)
            numbers = Numbers(seed)
            for _ in range(6):
                thing = tuple(numbers.below(len(readings) + 1) for _ in wrong)
                self.assertIs(is_misfit(play, unknown, readings, thing),
                              all(number in row for number, row in zip(thing, wrong)))
            self.assertIs(is_misfit(play, unknown, readings, expected), True)
            for thing in (list(expected), expected[1:], expected + expected[:1], None, 0, True, "", (None,) * len(wrong),
                          tuple(number - len(readings) for number in expected), tuple(map(bool, expected)),
                          tuple(map(str, expected)), (expected,)):
                self.assertIs(is_misfit(play, unknown, readings, thing), False, thing)
        self.assertGreater(told, 100)


class Errors(unittest.TestCase):
    PLAY = (works_of(part(8, (), "", WARE, 9), part(), part()), (), (), 4)
    UNKNOWN = (((0, (8, 9)),), (None, ("damp", 0)))

    def test_readings_first(self):
        for number in (-1, 3, 99):
            readings = ((0, 99), (number, 0), (7, 0))
            for function in FITTED + (guesses_that_fit, misfit):
                self.assertEqual(answer(function, self.PLAY, self.UNKNOWN, readings), raised("NoChamber", number))
            for function in (sure_heat, heats_left):
                self.assertEqual(answer(function, self.PLAY, self.UNKNOWN, readings, 55, -1), raised("NoChamber", number))
            for thing in (None, (0, 0, 0, 0)):
                self.assertEqual(answer(is_misfit, self.PLAY, self.UNKNOWN, readings, thing), raised("NoChamber", number))

    def test_number_then_tick_then_paper(self):
        for function in (sure_heat, heats_left):
            for readings in ((), ((0, 99),)):
                for number in (-1, 3, 99):
                    for tick in (-1, 0, 5):
                        self.assertEqual(answer(function, self.PLAY, self.UNKNOWN, readings, number, tick),
                                         raised("NoChamber", number))
                for tick in (-1, 5, 99):
                    self.assertEqual(answer(function, self.PLAY, self.UNKNOWN, readings, 2, tick), raised("NoTick", tick))
            for tick in (0, 4):
                self.assertEqual(answer(function, self.PLAY, self.UNKNOWN, ((0, 99),), 2, tick), NONE)

    def test_no_paper(self):
        self.assertEqual(guesses_that_fit(self.PLAY, self.UNKNOWN, ((0, 99),)), ())
        for function in FITTED:
            self.assertEqual(answer(function, self.PLAY, self.UNKNOWN, ((0, 99),)), NONE)
        self.assertEqual(answer(misfit, self.PLAY, self.UNKNOWN, ((0, 8),)), NONE)
        self.assertIs(is_misfit(self.PLAY, self.UNKNOWN, ((0, 8),), (0, 0, 0, 0)), False)
        self.assertIs(is_misfit(self.PLAY, self.UNKNOWN, ((0, 99),), (0, 0, 0, 0)), True)

    def test_lists(self):
        for play, unknown, readings, _ in cases(range(30)):
            for function in FITTED + (guesses_that_fit, misfit):
                self.assertTrue(strictly(answer(function, listed(play), listed(unknown), listed(readings)),
                                         answer(function, play, unknown, readings)))


if __name__ == "__main__":
    unittest.main()
