"""runs.py: [9], and the steps 1 and 2 of a tick [3]."""

import unittest

from ringkiln.chambers import turned_works
from ringkiln.deeds import deeds_done, is_told
from ringkiln.runs import (as_told, heat_rows, ledger_rows, run, stills_from, told_from, told_turned, tops_after,
                           works_rows)
from ringkiln.ticks import bare_tick, still_tick
from tests import oracle
from tests.support import (NOUGHTS, answer, heat_in, raised, some_rules, some_stills, some_told, some_works,
                           strictly)

MAKE = (((20, 2, 40),), 5, 10, 8, 60, 0)
WARE = ((0, 5, 3),)


def part(load=None, heat=0, top=0, coal=(), doors=""):
    return load, heat, top, coal, "w" in doors, "d" in doors, "s" in doors


def works_of(*chambers):
    return MAKE, chambers, NOUGHTS


class StepOne(unittest.TestCase):
    def test_told_deeds_in_their_order_ahead_of_rules(self):
        works = works_of(part(heat=20), part(), part())
        told = ((1, ("open", 1)), (1, ("set", 1, ((0, 4),))), (1, ("coal", 1, (3,))))
        rules = ((1, (("set",), ("pieces", 2)), ("coal", (9,))),)
        self.assertEqual(as_told(works, rules, told, (), 1), told + ((1, ("coal", 1, (9,))),))
        self.assertEqual(run(works, rules, told, (), 1)[1][1], (((0, 4, 0),), 0, 0, (3, 9), True, False, False))
        # A RULE for empty CHAMBERS comes too late.
        self.assertEqual(as_told(works, ((1, (("empty",),), ("set", ((0, 7),))),), told, (), 1), told)

    def test_wood_told_makes_the_front_that_rules_see(self):
        works = works_of(part(), part(), part())
        rules = ((1, (), ("open",)),)
        self.assertEqual(as_told(works, rules, (), (), 3), ())
        told = ((2, ("wood", 0, 10)),)
        self.assertEqual(as_told(works, rules, told, (), 3), told + ((2, ("open", 1)),))

    def test_each_is_looked_at_when_its_turn_comes(self):
        works = works_of(part(WARE, 20, doors="w"), part(), part())
        self.assertEqual(answer(run, works, (), ((1, ("draw", 0)),), (), 1), raised("Unfit"))
        told = ((1, ("damper", 0, True)), (3, ("draw", 0)))
        # 20 is 10 behind tick 1 and 5 behind tick 2.
        self.assertEqual(run(works, (), told, (), 3)[2], (3, 17, 0, 0, 5, 0, 0))
        self.assertEqual(answer(run, works, (), told, (2,), 3), raised("Unfit"))
        for told, error in ((((2, ("open", 3)), (2, ("draw", 1))), raised("NoChamber", 3)),
                            (((2, ("draw", 1)), (2, ("open", 3))), raised("Unfit")),
                            (((2, ("set", -1, ((4, 1),))),), raised("NoChamber", -1)),
                            (((2, ("set", 0, ((0, 1), (4, 1), (5, 1)))),), raised("NoKind", 4)),
                            (((1, ("coal", 0, ())), (2, ("open", 3))), raised("Unfit"))):
            for function in (run, works_rows, heat_rows, ledger_rows, tops_after, as_told):
                self.assertEqual(answer(function, works, (), told, (), 2), error)

    def test_what_is_told_behind_the_last_tick_is_not_looked_at(self):
        works = works_of(part(), part(), part())
        told = ((2, ("draw", 9)), (3, ("set", 0, ((8, 1),))))
        self.assertEqual(run(works, (), told, (), 1), run(works, (), (), (), 1))
        self.assertEqual(as_told(works, (), told, (), 1), ())
        self.assertEqual(run(works, (), told, (), 0), works)


class StepTwo(unittest.TestCase):
    def test_fires_are_looked_at_once(self):
        # The wood of the first RULE makes CHAMBER 1 a front, which the second one does not see.
        works = works_of(part(heat=20), part(), part(), part())
        rules = ((1, (), ("wood", 20)), (1, (), ("open",)))
        self.assertEqual(as_told(works, rules, (), (), 1), ((1, ("wood", 1, 20)), (1, ("open", 1))))
        self.assertEqual(as_told(works, rules, (), (), 2)[2:], ((2, ("wood", 2, 20)), (2, ("open", 2))))

    def test_rule_by_rule_for_all_fronts(self):
        works = works_of(part(heat=20), part(), part(heat=20), part())
        rules = ((1, (), ("open",)), (-1, (("wicket", True),), ("brick",)), (-5, (), ("coal", (2,))))
        self.assertEqual(as_told(works, rules, (), (), 1),
                         ((1, ("open", 1)), (1, ("open", 3)), (1, ("brick", 3)), (1, ("brick", 1)),
                          (1, ("coal", 3, (2,))), (1, ("coal", 1, (2,)))))

    def test_all_tests_hold_there_now_and_it_can_be_done(self):
        works = works_of(part(heat=20), part(WARE, 5, 5, (3,), "w"), part())
        for when, act, does in (((), ("draw",), True), ((("set",),), ("draw",), True), ((("empty",),), ("draw",), False),
                                ((("set",), ("below", 5)), ("draw",), False),
                                ((("below", 6), ("from", 5), ("pieces", 2), ("wicket", True)), ("draw",), True),
                                ((("below", 6), ("from", 5), ("pieces", 1), ("wicket", True)), ("draw",), False),
                                ((), ("clear",), False), ((), ("open",), False), ((), ("coal", ()), False),
                                ((), ("wood", 0), False), ((("damper", False),), ("damper", True), True),
                                ((), ("damper", False), False)):
            done = as_told(works, ((1, when, act),), (), (), 1)
            self.assertEqual(done, ((1, act[:1] + (1,) + act[1:]),) if does else ())

    def test_rules_see_what_rules_ahead_of_them_did(self):
        works = works_of(part(heat=20), part(WARE, 5, 5, (), "w"), part())
        rules = ((1, (), ("draw",)), (1, (("empty",),), ("set", ((0, 8),))), (1, (("set",),), ("brick",)),
                 (1, (("wicket", True),), ("draw",)))
        self.assertEqual(as_told(works, rules, (), (), 1),
                         ((1, ("draw", 1)), (1, ("set", 1, ((0, 8),))), (1, ("brick", 1))))

    def test_a_fire_of_all_and_no_fire_have_no_front(self):
        rules = ((0, (), ("open",)),)
        for heat in (9, 10):
            works = works_of(part(heat=heat), part(heat=heat), part(heat=heat))
            self.assertEqual(as_told(works, rules, (), (), 2), ())
            self.assertEqual(run(works, rules, (), (), 2), run(works, (), (), (), 2))

    def test_places_round_the_ring(self):
        works = works_of(part(heat=20), part(), part(), part(heat=20), part())
        for place, numbers in ((0, (0, 3)), (1, (1, 4)), (2, (2, 0)), (-1, (4, 2)), (-12, (3, 1)), (12, (2, 0))):
            self.assertEqual(as_told(works, ((place, (), ("open",)),), (), (), 1),
                             tuple((1, ("open", number)) for number in numbers))


class Runs(unittest.TestCase):
    def test_no_ticks(self):
        works = works_of(part(WARE, 20, 31, doors="w"), part(), part())
        self.assertEqual(run(works, (), (), (), 0), works)
        self.assertEqual(works_rows(works, (), (), (), 0), (works,))
        self.assertEqual(heat_rows(works, (), (), (), 0), ((20, 0, 0),))
        self.assertEqual(ledger_rows(works, (), (), (), 0), (NOUGHTS,))
        self.assertEqual(tops_after(works, (), (), (), 0), ((0, 31), (1, 0), (2, 0)))
        self.assertEqual(as_told(works, (), (), (), 0), ())

    def test_still_ticks(self):
        works = works_of(part(heat=20, doors="wd"), part(), part())
        self.assertEqual(heat_rows(works, (), (), (2, 4, 9), 4), ((20, 0, 0), (10, 0, 0), (10, 0, 0), (5, 0, 0),
                                                                  (5, 0, 0)))
        self.assertEqual(run(works, (), (), (1,), 2), bare_tick(still_tick(works)))

    def test_the_rows_are_of_one_run(self):
        for seed in range(100):
            works = some_works(seed)
            rules = some_rules(seed, works[0])
            stills = some_stills(seed, 6)
            rows = works_rows(works, rules, (), stills, 6)
            self.assertEqual(len(rows), 7)
            self.assertEqual(rows, tuple(run(works, rules, (), stills, many) for many in range(7)))
            self.assertEqual(heat_rows(works, rules, (), stills, 6),
                             tuple(tuple(own[1] for own in row[1]) for row in rows))
            self.assertEqual(ledger_rows(works, rules, (), stills, 6), tuple(row[2] for row in rows))
            self.assertEqual(tops_after(works, rules, (), stills, 6),
                             tuple((number, own[2]) for number, own in enumerate(rows[6][1])))

    def test_a_thousand_ticks(self):
        works = works_of(part(heat=30, coal=(9,), doors="w"), part(heat=4), part(doors="d"), part())
        rules = ((0, (("pieces", 1),), ("coal", (20,))), (1, (), ("open",)))
        self.assertEqual(run(works, rules, (), (), 1000)[2][0], 1000)


class Told(unittest.TestCase):
    def test_turned(self):
        told = ((2, ("draw", 0)), (5, ("open", 2)))
        self.assertEqual(told_turned(told, 2, 3), ((2, ("draw", 2)), (5, ("open", 1))))
        self.assertEqual(told_turned(told, -4, 3), ((2, ("draw", 2)), (5, ("open", 1))))
        self.assertEqual(told_turned((), 2, 3), ())
        self.assertEqual(answer(told_turned, told, 1, 2), raised("NoChamber", 2))
        self.assertEqual(answer(told_turned, ((2, ("draw", -1)),), 1, 3), raised("NoChamber", -1))

    def test_from(self):
        told = ((1, ("draw", 0)), (2, ("draw", 1)), (2, ("open", 2)), (5, ("open", 9)))
        self.assertEqual(told_from(told, 0), told)
        self.assertEqual(told_from(told, 1), ((1, ("draw", 1)), (1, ("open", 2)), (4, ("open", 9))))
        self.assertEqual(told_from(told, 2), ((3, ("open", 9)),))
        self.assertEqual(told_from(told, 5), ())
        self.assertEqual(told_from((), 5), ())
        self.assertEqual([stills_from((1, 2, 5), number) for number in (0, 1, 2, 4, 5, 90)],
                         [(1, 2, 5), (1, 4), (3,), (1,), (), ()])
        self.assertEqual(stills_from((), 3), ())


class Guarantees(unittest.TestCase):
    def runs(self, seeds, many):
        """WORKS, RULES, told DEEDS that can be done, STILLS."""
        found = 0
        for seed in seeds:
            works = some_works(seed)
            rules = some_rules(seed, works[0])
            stills = some_stills(seed, many)
            told = some_told(seed, works, many)
            if oracle.run_told(works, rules, told, stills, many) is None:
                told = tuple(pair for pair in told if pair[1][0] == "coal" and pair[1][2] != ())
            found += told != ()
            yield works, rules, told, stills
        self.assertGreater(found, len(seeds) // 6)

    def test_runs_are_as_the_second_reading_has_them(self):
        unfit = 0
        for seed in range(500):
            works = some_works(seed)
            rules, told, stills = some_rules(seed, works[0]), some_told(seed, works, 7), some_stills(seed, 7)
            expected = oracle.run_told(works, rules, told, stills, 7)
            if expected is None:
                unfit += 1
                for function in (run, works_rows, heat_rows, ledger_rows, tops_after, as_told):
                    self.assertEqual(answer(function, works, rules, told, stills, 7), raised("Unfit"))
            else:
                self.assertTrue(strictly(works_rows(works, rules, told, stills, 7), expected[0]))
                self.assertTrue(strictly(as_told(works, rules, told, stills, 7), expected[1]))
        self.assertGreater(unfit, 50)
        self.assertLess(unfit, 450)

    def test_heat_is_accounted_for_at_each_tick(self):
        for works, rules, told, stills in self.runs(range(200), 8):
            for row in works_rows(works, rules, told, stills, 8):
                gained = [one - other for one, other in zip(row[2], works[2])]
                self.assertEqual(heat_in(works) + gained[3], heat_in(row) + gained[1] + gained[2])

    def test_turned_it_is_the_run_turned(self):
        for works, rules, told, stills in self.runs(range(200), 6):
            many = len(works[1])
            for by in (1, 2):
                self.assertEqual(run(turned_works(works, -by), rules, told_turned(told, by, many), stills, 6),
                                 turned_works(run(works, rules, told, stills, 6), -by))

    def test_in_two_parts_it_is_the_run(self):
        for works, rules, told, stills in self.runs(range(150), 6):
            whole = run(works, rules, told, stills, 6)
            for cut in range(7):
                half = run(works, rules, told, stills, cut)
                self.assertEqual(run(half, rules, told_from(told, cut), stills_from(stills, cut), 6 - cut), whole)

    def test_as_told_does_without_rules_what_rules_did(self):
        used = 0
        for works, rules, told, stills in self.runs(range(300), 6):
            all_told = as_told(works, rules, told, stills, 6)
            used += len(all_told) > len(told)
            self.assertIs(is_told(all_told), True)
            self.assertEqual(works_rows(works, (), all_told, stills, 6), works_rows(works, rules, told, stills, 6))
        self.assertGreater(used, 60)

    def test_a_tick_is_deeds_and_then_a_bare_tick(self):
        for works, rules, told, stills in self.runs(range(150), 4):
            deeds = tuple(deed for tick, deed in as_told(works, rules, told, stills, 1))
            tick = still_tick if 1 in stills else bare_tick
            self.assertEqual(run(works, rules, told, stills, 1), tick(deeds_done(works, deeds)))


if __name__ == "__main__":
    unittest.main()
