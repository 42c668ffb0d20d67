"""fires.py: [10]."""

import unittest

from ringkiln.chambers import turned_works
from ringkiln.fires import (cause_of, comes_to, fire_at, fire_rows, fires_of, fronts_of, goes_out, is_fire_rows, is_out,
                            jumps, kindled_at, passes)
from ringkiln.runs import told_turned, works_rows
from tests import oracle
from tests.support import NOUGHTS, answer, listed, raised, some_rules, some_told, some_works

MAKE = (((20, 2, 90),), 0, 10, 8, 200, 0)


def part(heat=0, coal=(), doors=""):
    return None, heat, 0, coal, "w" in doors, "d" in doors, "s" in doors


def works_of(*chambers, make=MAKE):
    return make, chambers, NOUGHTS


def of_heats(*heats):
    return works_of(*[part(heat) for heat in heats])


FIRE_RUNS = (fire_rows, kindled_at, jumps, goes_out, cause_of)


class Fires(unittest.TestCase):
    def test_fires_of(self):
        rows = {(9, 9, 9): [], (10, 9, 9): [(0,)], (9, 10, 50): [(1, 2)], (10, 9, 10): [(2, 0)],
                (10, 10, 10): [(0, 1, 2)], (10, 9, 10, 9): [(0,), (2,)], (10, 9, 10, 10): [(2, 3, 0)],
                (9, 10, 10, 9, 0, 90): [(1, 2), (5,)], (10, 10, 9, 10, 9, 10): [(5, 0, 1), (3,)]}
        for heats, fires in rows.items():
            works = of_heats(*heats)
            self.assertEqual(fires_of(works), fires, heats)
            whole = len(fires) == 1 and len(fires[0]) == len(heats)
            self.assertEqual(fronts_of(works), () if whole else tuple(fire[-1] for fire in fires))
            self.assertIs(is_out(works), fires == [])
            for number in range(len(heats)):
                own = [fire for fire in fires if number in fire]
                self.assertEqual(fire_at(works, number), own[0] if own else None)

    def test_no_chamber(self):
        works = of_heats(10, 0, 0)
        for number in (-1, 3, 99):
            self.assertEqual(answer(fire_at, works, number), raised("NoChamber", number))
            for function in (comes_to, passes):
                self.assertEqual(answer(function, works, (), ((1, ("draw", 0)),), 5, number),
                                 raised("NoChamber", number))


class Runs(unittest.TestCase):
    # The coal of CHAMBER 2 lies, since it never comes to 10.
    LANE = works_of(part(20, (), "w"), part(14), part(2, (30,), "d"), part())

    def test_heats_of_the_lane(self):
        self.assertEqual([[own[1] for own in row[1]] for row in works_rows(self.LANE, (), (), (), 4)],
                         [[20, 14, 2, 0], [10, 12, 7, 0], [5, 9, 8, 0], [3, 6, 7, 0], [2, 4, 5, 0]])
        self.assertEqual(fire_rows(self.LANE, (), (), 4), ((0, 1), (0, 1), (), (), ()))
        self.assertEqual((goes_out(self.LANE, (), (), 4), cause_of(self.LANE, (), (), 4)), (2, (2, "coal")))

    def test_no_ticks(self):
        self.assertEqual(fire_rows(self.LANE, (), (), 0), ((0, 1),))
        self.assertEqual(kindled_at(self.LANE, (), (), 0), ((), (), (), ()))
        self.assertEqual((comes_to(self.LANE, (), (), 0, 1), comes_to(self.LANE, (), (), 0, 2)), (0, None))
        self.assertEqual(passes(self.LANE, (), (), 0, 1), ())
        self.assertEqual(jumps(self.LANE, (), (), 0), [])
        self.assertEqual(goes_out(self.LANE, (), (), 0), None)
        self.assertEqual(goes_out(of_heats(9, 9, 9), (), (), 0), 0)
        self.assertEqual(answer(cause_of, self.LANE, (), (), 0), raised("NoPaper"))

    def test_is_fire_rows(self):
        rows = fire_rows(self.LANE, (), (), 2)
        self.assertIs(is_fire_rows(self.LANE, (), (), 2, rows), True)
        for thing in (listed(rows), rows[:2], rows + ((),), ((False, True),) + rows[1:], None, 7, "", (),
                      ((0, True),) + rows[1:], ([0, 1],) + rows[1:]):
            self.assertIs(is_fire_rows(self.LANE, (), (), 2, thing), False, thing)
        self.assertEqual(answer(is_fire_rows, self.LANE, (), ((1, ("draw", 9)),), 2, None), raised("NoChamber", 9))
        self.assertEqual(answer(is_fire_rows, self.LANE, (), ((1, ("draw", 0)),), 2, None), raised("Unfit"))

    def test_kindled_by_wood_and_again(self):
        works = of_heats(10, 0, 0)
        works = (MAKE, (part(10, (), "wd"),) + works[1][1:], NOUGHTS)
        told = ((2, ("wood", 1, 10)), (4, ("wood", 0, 30)), (6, ("coal", 2, (5,))))
        self.assertEqual(fire_rows(works, (), told, 6), ((0,), (), (1,), (1,), (0, 1), (1,), (1,)))
        self.assertEqual(kindled_at(works, (), told, 6), ((4,), (2,), ()))
        self.assertEqual([comes_to(works, (), told, 6, number) for number in range(3)], [0, 2, None])
        self.assertEqual([passes(works, (), told, 6, number) for number in range(3)], [(), (2,), ()])
        self.assertEqual(jumps(works, (), told, 6), [(2, 1), (4, 0)])
        self.assertEqual((goes_out(works, (), told, 6), cause_of(works, (), told, 6)), (1, (1, "coal")))

    def test_a_fire_of_all_has_no_front(self):
        works = works_of(part(10), part(10), part(9, (9,), "wd"))
        told = ((1, ("wood", 2, 11)), (2, ("damper", 2, False)))
        self.assertEqual(fire_rows(works, (), told, 2), ((0, 1), (0, 1, 2), (0, 1, 2)))
        self.assertEqual([passes(works, (), told, 2, number) for number in range(3)], [(), (), ()])
        self.assertEqual(kindled_at(works, (), told, 2), ((), (), (1,)))

    def test_passes_when_the_front_comes_back(self):
        works = works_of(part(10), part(9), part(40, (), "wd"), part(0))
        told = ((1, ("wood", 1, 1)), (4, ("wood", 1, 5)))
        # The FIRE is (2,) and (0,); from tick 1 on (0, 1, 2) until 2 is cold.
        self.assertEqual(fires_of(works), [(0,), (2,)])
        self.assertEqual(passes(works, (), told, 5, 0), ())
        self.assertEqual(fire_rows(works, (), told, 5),
                         ((0, 2), (0, 1, 2), (0, 1, 2), (0, 1), (0, 1), (0, 1)))
        self.assertEqual([passes(works, (), told, 5, number) for number in range(4)], [(), (3,), (), ()])

    def test_jumps_only_over_chambers_without_fire(self):
        # CHAMBER 2 is kindled behind tick 1 while 1 lies in a FIRE; 4 with 3 cold.
        works = works_of(part(0), part(20), part(9), part(0), part(9))
        told = ((1, ("wood", 2, 1)), (1, ("wood", 4, 1)))
        self.assertEqual(jumps(works, (), told, 1), [(1, 4)])
        # The one before is kindled at the same tick, or falls at it.
        self.assertEqual(jumps(works, (), ((1, ("wood", 3, 10)), (1, ("wood", 4, 1))), 1), [(1, 3)])
        falling = works_of(part(10, (), "wd"), part(9), part(0))
        self.assertEqual(fire_rows(falling, (), ((1, ("wood", 1, 1)),), 1), ((0,), (1,)))
        self.assertEqual(jumps(falling, (), ((1, ("wood", 1, 1)),), 1), [])
        self.assertEqual(jumps(falling, (), ((2, ("wood", 1, 1)),), 2), [(2, 1)])
        told = ((1, ("wood", 9, 10)), (2, ("wood", 8, 10)))
        self.assertEqual(jumps(of_heats(10, 0, 0, 0, 0, 0, 0, 0, 0, 0), (), told, 2), [(1, 9), (2, 8)])
        # Ahead of CHAMBER 0 comes the last one.
        self.assertEqual(jumps(of_heats(9, 0, 10), (), ((1, ("wood", 0, 1)),), 1), [])
        self.assertEqual(jumps(of_heats(9, 10, 0), (), ((1, ("wood", 0, 1)),), 1), [(1, 0)])

    def test_the_whole_run_is_looked_at_for_errors(self):
        works = works_of(part(10, (), "wd"), part(0), part(0))
        self.assertEqual(goes_out(works, (), (), 9), 1)
        for deed, error in ((("draw", 0), raised("Unfit")), (("draw", 9), raised("NoChamber", 9)),
                            (("set", 0, ((1, 1),)), raised("NoKind", 1))):
            told = ((9, deed),)
            for function in FIRE_RUNS:
                self.assertEqual(answer(function, works, (), told, 9), error)
                self.assertEqual(answer(function, works, (), told, 8), answer(function, works, (), (), 8))
            for function in (comes_to, passes):
                self.assertEqual(answer(function, works, (), told, 9, 0), error)


class Causes(unittest.TestCase):
    def test_air(self):
        earth = MAKE[:5] + (2,)
        works = works_of(part(10), part(9, (50,), "wd"), part(0), make=earth)
        self.assertEqual(cause_of(works, (), (), 5), (1, "air"))

    def test_coal(self):
        # CHAMBER 1 has coal but no FIRE, 2 has a FIRE and coal but lies in no DRAUGHT.
        earth = MAKE[:5] + (2,)
        works = works_of(part(10, (), "w"), part(0, (9,), "d"), part(10, (9,)), make=earth)
        self.assertEqual(cause_of(works, (), (), 5), (1, "coal"))

    def test_heat(self):
        works = works_of(part(18, (30,), "wd"), part(0), part(0))
        self.assertEqual(cause_of(works, (), (), 5), (1, "heat"))

    def test_what_stands_behind_the_second_step_counts(self):
        works = works_of(part(16), part(0), part(0))
        doors = ((1, ("open", 0)), (1, ("damper", 0, True)))
        self.assertEqual(cause_of(works, (), doors, 5), (1, "coal"))
        self.assertEqual(cause_of(works, ((0, (), ("coal", (3,))),), doors, 5), (1, "heat"))
        self.assertEqual(cause_of(works, ((0, (), ("open",)), (0, (), ("damper", True))), (), 5), (1, "coal"))

    def test_the_least_tick_at_which_it_goes_out(self):
        works = works_of(part(12, (), "wd"), part(0), part(0))
        told = ((3, ("wood", 0, 20)), (3, ("coal", 0, (1,))), (5, ("wood", 0, 12)))
        self.assertEqual(fire_rows(works, (), told, 6), ((0,), (), (), (0,), (), (0,), ()))
        self.assertEqual(cause_of(works, (), told, 6), (1, "coal"))

    def test_who_is_out_at_first_goes_out_later(self):
        works = works_of(part(0, (), "wd"), part(0), part(0))
        told = ((2, ("wood", 0, 20)), (3, ("coal", 0, (1,))))
        self.assertEqual(fire_rows(works, (), told, 3), ((), (), (0,), ()))
        self.assertEqual(goes_out(works, (), told, 3), 0)
        self.assertEqual(cause_of(works, (), told, 3), (3, "heat"))
        self.assertEqual(answer(cause_of, works, (), (), 3), raised("NoPaper"))
        self.assertEqual(answer(cause_of, works, (), told, 2), raised("NoPaper"))


def plain_answers(rows, many):
    """What the functions tell of a run, from the sets of CHAMBERS in FIRES behind each tick."""
    def new(number, tick, sets):
        return number in sets[tick] and number not in sets[tick - 1]
    fronts = [{number for number in row if (number + 1) % many not in row} for row in rows]
    ticks = range(1, len(rows))
    return {
        "kindled": tuple(tuple(tick for tick in ticks if new(number, tick, rows)) for number in range(many)),
        "passes": [tuple(tick for tick in ticks if new(number, tick, fronts)) for number in range(many)],
        "comes": [next((tick for tick, row in enumerate(rows) if number in row), None) for number in range(many)],
        "jumps": [(tick, number) for tick in ticks for number in range(many) if new(number, tick, rows)
                  and (number - 1) % many not in rows[tick] + rows[tick - 1]],
        "out": next((tick for tick, row in enumerate(rows) if row == ()), None),
        "ends": [tick for tick in ticks if rows[tick] == () and rows[tick - 1] != ()],
    }


def turned_pairs(pairs, by, many):
    return sorted((tick, (number + by) % many) for tick, number in pairs)


class Guarantees(unittest.TestCase):
    def runs(self, seeds):
        for seed in seeds:
            works = some_works(seed)
            rules, told = some_rules(seed, works[0]), some_told(seed, works, 8)
            expected = oracle.run_told(works, rules, told, (), 8)
            if expected is None:
                told = ()
                expected = oracle.run_told(works, rules, told, (), 8)
            yield works, rules, told, expected[0]

    def test_all_is_as_the_rows_of_the_run_tell(self):
        causes = {}
        for works, rules, told, behind in self.runs(range(500)):
            many = len(works[1])
            rows = tuple(tuple(number for number, own in enumerate(row[1]) if own[1] >= works[0][2]) for row in behind)
            plain = plain_answers(rows, many)
            self.assertEqual(fire_rows(works, rules, told, 8), rows)
            self.assertIs(is_fire_rows(works, rules, told, 8, rows), True)
            self.assertEqual(kindled_at(works, rules, told, 8), plain["kindled"])
            self.assertEqual([comes_to(works, rules, told, 8, number) for number in range(many)], plain["comes"])
            self.assertEqual([passes(works, rules, told, 8, number) for number in range(many)], plain["passes"])
            self.assertEqual(jumps(works, rules, told, 8), plain["jumps"])
            self.assertEqual(goes_out(works, rules, told, 8), plain["out"])
            cause = answer(cause_of, works, rules, told, 8)
            if plain["ends"]:
                self.assertEqual(cause[0], plain["ends"][0])
                causes[cause[1]] = causes.get(cause[1], 0) + 1
            else:
                self.assertEqual(cause, raised("NoPaper"))
        self.assertEqual(sorted(causes), ["air", "coal", "heat"])

    def test_fires_are_stretches_as_long_as_can_be(self):
        for seed in range(300):
            works = some_works(seed)
            many = len(works[1])
            hot = [own[1] >= works[0][2] for own in works[1]]
            fires = fires_of(works)
            self.assertEqual(sorted(number for fire in fires for number in fire),
                             [number for number in range(many) if hot[number]])
            for fire in fires:
                self.assertEqual(list(fire), [(fire[0] + steps) % many for steps in range(len(fire))])
                if len(fire) < many:
                    self.assertFalse(hot[(fire[-1] + 1) % many] or hot[fire[0] - 1])
            self.assertEqual([fire[-1] for fire in fires], sorted(fire[-1] for fire in fires))

    def test_who_is_out_stays_out_until_wood_is_put_in(self):
        for works, rules, told, behind in self.runs(range(300)):
            quenched = (works[0], tuple(own[:1] + (min(own[1], works[0][2] - 1),) + own[2:] for own in works[1]),
                        works[2])
            self.assertIs(is_out(quenched), True)
            self.assertEqual(fire_rows(quenched, rules, (), 12), ((),) * 13)

    def test_turned_all_is_told_turned(self):
        for works, rules, told, _ in self.runs(range(200)):
            many = len(works[1])
            for by in (1, many - 1):
                other, other_told = turned_works(works, -by), told_turned(told, by, many)
                rows = fire_rows(works, rules, told, 8)
                self.assertEqual(fire_rows(other, rules, other_told, 8),
                                 tuple(tuple(sorted((number + by) % many for number in row)) for row in rows))
                kindled = kindled_at(works, rules, told, 8)
                self.assertEqual(kindled_at(other, rules, other_told, 8), kindled[-by:] + kindled[:-by])
                self.assertEqual(jumps(other, rules, other_told, 8),
                                 turned_pairs(jumps(works, rules, told, 8), by, many))
                for number in range(many):
                    self.assertEqual(passes(other, rules, other_told, 8, (number + by) % many),
                                     passes(works, rules, told, 8, number))
                self.assertEqual(answer(cause_of, other, rules, other_told, 8),
                                 answer(cause_of, works, rules, told, 8))
                self.assertEqual(goes_out(other, rules, other_told, 8), goes_out(works, rules, told, 8))
                self.assertEqual(fronts_of(other), tuple(sorted((n + by) % many for n in fronts_of(works))))


if __name__ == "__main__":
    unittest.main()
