"""ticks.py: [7], and the steps 3 to 8 of a tick [3], each on its own."""

import itertools
import unittest

from ringkiln.draughts import all_draughts
from ringkiln.ticks import (air_through, bare_tick, burners, fallen, heat_shares, heats_before, is_bare_tick, kindled,
                            marks_done, slag_next, still_tick, tick_parts, torn_next)
from tests import oracle
from tests.support import NOUGHTS, answer, heat_in, kept, listed, raised, some_works

MAKE = (((20, 2, 40),), 5, 10, 8, 60, 0)
EARTHED = MAKE[:5] + (10,)


def works_of(*chambers, make=MAKE, ledger=NOUGHTS):
    return make, chambers, ledger


def part(load=None, heat=0, top=0, coal=(), doors=""):
    return load, heat, top, coal, "w" in doors, "d" in doors, "s" in doors


def heats(works):
    return [chamber[1] for chamber in works[1]]


def step(works, number):
    """The WORKS behind step number, 4 to 8, of a bare tick."""
    return tick_parts(works)[number - 4]


class Air(unittest.TestCase):
    def test_odd_and_even_sums(self):
        self.assertEqual(air_through((8,)), ((4,), 4))
        self.assertEqual(air_through((9,)), ((5,), 4))
        self.assertEqual(air_through((0, 0)), ((0, 0), 0))
        self.assertEqual(air_through((9, 9, 9)), ((5, 7, 8), 7))
        self.assertEqual(air_through((1, 1)), ((1, 1), 0))

    def test_nothing_gets_lost(self):
        for row in itertools.product(range(5), repeat=4):
            behind, flue = air_through(row)
            self.assertEqual(sum(behind) + flue, sum(row))

    def test_more_heat_leaves_none_with_less(self):
        for row in itertools.product(range(4), repeat=4):
            behind, flue = air_through(row)
            for place in range(4):
                more = row[:place] + (row[place] + 1,) + row[place + 1:]
                more_behind, more_flue = air_through(more)
                self.assertTrue(all(one <= other for one, other in zip(behind, more_behind)))
                self.assertLessEqual(flue, more_flue)

    def test_before_is_all_that_leads_there_and_nothing_else(self):
        for long, bound in ((1, 7), (2, 5), (3, 4)):
            ways = {}
            for row in itertools.product(range(8 * bound), repeat=long) if long < 3 else itertools.product(
                    range(22), repeat=3):
                ways.setdefault(air_through(row), []).append(row)
            for row in itertools.product(range(bound), repeat=long):
                for flue in range(bound):
                    self.assertEqual(heats_before(row, flue), ways.get((row, flue), []))

    def test_before_for_long_rows(self):
        behind, flue = air_through((30, 2, 9, 14, 0, 7, 60, 3, 3, 21, 8, 5))
        found = heats_before(behind, flue)
        self.assertIn((30, 2, 9, 14, 0, 7, 60, 3, 3, 21, 8, 5), found)
        self.assertEqual(found, sorted(set(found)))
        self.assertTrue(all(air_through(row) == (behind, flue) for row in found))

    def test_too_many_heats(self):
        self.assertEqual(type(heats_before((1,) * 12, 0)), list)
        for many in (13, 14, 40):
            self.assertEqual(answer(heats_before, (1,) * many, 0), raised("TooMany"))


class StepThree(unittest.TestCase):
    def test_a_draught_stopped_moves_no_heat(self):
        moving = works_of(part(heat=20, doors="w"), part(heat=4), part(heat=6, doors="d"))
        self.assertEqual(heats(step(moving, 4)), [10, 7, 7])
        mouth, middle, tail = moving[1]
        for chambers in ((part(heat=20), middle, tail), (part(7, 20, doors="w"), middle, tail),
                         (part(heat=20, doors="ws"), middle, tail), (mouth, part(heat=4, doors="w"), part(heat=6)),
                         (mouth, part(5, 4), tail), (mouth, part(heat=4, doors="s"), tail),
                         (mouth, middle, part(5, 6, doors="d")), (mouth, middle, part(heat=6))):
            works = works_of(*chambers)
            self.assertEqual(heats(step(works, 4)), [20, 4, 6], chambers)
            self.assertEqual(step(works, 4), works)

    def test_a_later_wicket_draws_for_itself(self):
        works = works_of(part(heat=20, doors="w"), part(heat=4, doors="w"), part(heat=6, doors="d"))
        self.assertEqual(heats(step(works, 4)), [20, 2, 4])

    def test_two_draughts(self):
        works = works_of(part(heat=20, doors="wd"), part(heat=9, doors="w"), part(heat=6, doors="d"), part(heat=5))
        self.assertEqual(heats(step(works, 4)), [10, 5, 5, 5])
        self.assertEqual(step(works, 4)[2][1], 15)

    def test_a_still_tick_has_none(self):
        works = works_of(part(heat=20, coal=(9,), doors="w"), part(heat=14, coal=(9,)), part(heat=6, doors="d"))
        self.assertEqual(still_tick(works), (MAKE, works[1], (1,) + NOUGHTS[1:]))


class StepFour(unittest.TestCase):
    def test_flue_is_added(self):
        works = works_of(part(heat=21, doors="w"), part(heat=9), part(heat=4, doors="d"), ledger=(1, 2, 3, 4, 5, 6, 7))
        self.assertEqual(step(works, 4), works_of(part(heat=11, doors="w"), part(heat=10), part(heat=7, doors="d"),
                                                  ledger=(1, 8, 3, 4, 5, 6, 7)))


class StepFive(unittest.TestCase):
    def test_the_first_piece_is_burnt_by_heat_behind_step_four(self):
        works = works_of(part(heat=20, coal=(3, 9), doors="w"), part(heat=9, coal=(5,)), part(heat=19, coal=(7,)),
                         part(heat=30, coal=(2, 6), doors="d"))
        # Heat 10 kindles, 9 warmed to 10 kindles, 15, 23.
        self.assertEqual(heats(step(works, 4)), [10, 10, 14, 22])
        behind = step(works, 5)
        self.assertEqual(heats(behind), [13, 15, 21, 24])
        self.assertEqual([chamber[3] for chamber in behind[1]], [(9,), (), (), (6,)])
        self.assertEqual(behind[2], (0, 22, 0, 17, 0, 0, 0))
        self.assertEqual(burners(works), (0, 1, 2, 3))

    def test_no_burning_below_kindling_without_coal_or_out_of_draughts(self):
        works = works_of(part(heat=18, coal=(3,), doors="w"), part(heat=50), part(heat=90, coal=(7,), doors="d"),
                         part(heat=90, coal=(7,)))
        # 18 has kindling before step 4, 9 behind it.
        behind = step(works, 5)
        self.assertEqual(heats(behind), [9, 30, 67, 90])
        self.assertEqual([chamber[3] for chamber in behind[1]], [(3,), (), (), (7,)])
        self.assertEqual(burners(works), (2,))
        self.assertEqual(burners(works_of(*works[1], make=MAKE[:2] + (9,) + MAKE[3:])), (0, 2))
        self.assertEqual(burners(works_of(*works[1], make=MAKE[:2] + (61,) + MAKE[3:])), ())

    def test_burners_of_a_draught_that_goes_past_the_last_chamber(self):
        works = works_of(part(heat=30, coal=(3,), doors="d"), part(), part(heat=40, coal=(9,), doors="w"),
                         part(heat=20, coal=(7,)))
        self.assertEqual(all_draughts(works), ((2, 3, 0),))
        self.assertEqual(burners(works), (0, 2, 3))

    def test_burnt_heat_lights_no_other_chamber(self):
        works = works_of(part(heat=20, coal=(50,), doors="w"), part(heat=0, coal=(5,)), part(heat=0, doors="d"))
        self.assertEqual(heats(step(works, 5)), [60, 5, 3])
        self.assertEqual(burners(works), (0,))


class StepSix(unittest.TestCase):
    def test_each_chamber_pays(self):
        works = works_of(part(heat=9), part(heat=10), part(heat=39, doors="s"), make=EARTHED)
        self.assertEqual(heats(step(works, 6)), [9, 9, 36])
        self.assertEqual(step(works, 6)[2], (0, 0, 4, 0, 0, 0, 0))
        self.assertEqual(heats(step(works_of(*works[1], make=MAKE[:5] + (2,)), 6)), [5, 5, 20])

    def test_no_earth(self):
        works = works_of(part(heat=9), part(heat=10), part(heat=900))
        self.assertEqual(step(works, 6), works)

    def test_it_pays_of_what_is_behind_burning(self):
        works = works_of(part(heat=20, coal=(9,), doors="wd"), part(), part(), make=EARTHED)
        self.assertEqual(heats(step(works, 6)), [18, 0, 0])
        self.assertEqual(heat_shares(works, 0), (-10, 9, 1))


class StepSeven(unittest.TestCase):
    def test_marks(self):
        rows = {19: 0, 20: 1, 40: 1}
        for heat, stood in rows.items():
            behind = marks_done(works_of(part(((0, 5, 0),), heat), part(), part()))
            self.assertEqual(behind[1][0][0], ((0, 5, stood),))
        two = marks_done(works_of(part(((0, 5, 3), (0, 6, 1)), 24, 90), part(((0, 5, 3), (0, 6, 1)), 25, 90), part()))
        self.assertEqual([chamber[0] for chamber in two[1]], [((0, 5, 4), (0, 6, 1)), ((0, 5, 4), (0, 6, 2)), None])

    def test_melt(self):
        works = works_of(part(((0, 5, 3), (0, 6, 1)), 41, 2), part(((0, 5, 3),), 40, 2), part(8, 90, 2))
        self.assertEqual([chamber[:3] for chamber in marks_done(works)[1]],
                         [(11, 41, 41), (((0, 5, 4),), 40, 40), (8, 90, 90)])
        self.assertEqual(slag_next(works), (0,))

    def test_tops(self):
        works = works_of(part(None, 30), part(((0, 5, 0),), 30, 31), part(8, 30, 29), part(((0, 5, 0),), 30, 30))
        self.assertEqual([chamber[2] for chamber in marks_done(works)[1]], [0, 31, 30, 30])

    def test_screens(self):
        works = works_of(part(None, 60, doors="s"), part(8, 61, doors="s"), part(None, 59, doors="s"), part(None, 90))
        self.assertEqual([chamber[6] for chamber in marks_done(works)[1]], [False, False, True, False])
        self.assertEqual(torn_next(works), (0, 1))

    def test_it_leaves_all_else(self):
        works = works_of(part(None, 90, 0, (3,), "wd"), part(7, 2, 5, (4, 5), "d"), part(), ledger=(1, 2, 3, 4, 5, 6, 7))
        self.assertEqual(marks_done(works), works)


class StepEight(unittest.TestCase):
    def test_the_tick_is_counted(self):
        works = works_of(part(), part(), part(), ledger=(4, 3, 2, 1, 5, 6, 7))
        for function in (bare_tick, still_tick):
            self.assertEqual(function(works), works_of(part(), part(), part(), ledger=(5, 3, 2, 1, 5, 6, 7)))
        self.assertEqual([own[2][0] for own in tick_parts(works)], [4, 4, 4, 4, 5])


class WhatATickDoes(unittest.TestCase):
    def test_kindled_and_fallen(self):
        works = works_of(part(heat=18, doors="w"), part(heat=10), part(heat=9, doors="d"), part(heat=10),
                         part(heat=9))
        self.assertEqual(heats(bare_tick(works)), [9, 10, 9, 10, 9])
        self.assertEqual((kindled(works), fallen(works)), ((), (0,)))
        other = works_of(part(heat=44, doors="w"), part(heat=0), part(heat=9, coal=(9,), doors="d"))
        self.assertEqual(heats(bare_tick(other)), [22, 11, 19])
        self.assertEqual((kindled(other), fallen(other)), ((1, 2), ()))
        just = works_of(part(heat=40, doors="w"), part(heat=0), part(heat=5, doors="d"))
        self.assertEqual(heats(bare_tick(just)), [20, 10, 8])
        self.assertEqual((kindled(just), fallen(just)), ((1,), ()))

    def test_a_bare_tick_or_a_still_one(self):
        works = works_of(part(heat=20, doors="w"), part(heat=4), part(heat=6, doors="d"))
        wind, still = bare_tick(works), still_tick(works)
        self.assertNotEqual(wind, still)
        self.assertIs(is_bare_tick(works, wind), True)
        self.assertIs(is_bare_tick(works, still), True)
        odd = (wind[0], wind[1], (True,) + wind[2][1:])
        number_for_door = (wind[0], (wind[1][0][:4] + (1, 0, 0),) + wind[1][1:], wind[2])
        tuple_for_number = (wind[0], wind[1], ((1,),) + wind[2][1:])
        number_for_tuple = (wind[0], 7, wind[2])
        for thing in (works, listed(wind), wind[:2], odd, number_for_door, tuple_for_number, number_for_tuple, None, 7, "works", (), wind + (0,)):
            self.assertIs(is_bare_tick(works, thing), False, thing)

    def test_no_chamber(self):
        works = works_of(part(), part(), part())
        for number in (-1, 3, 77):
            self.assertEqual(answer(heat_shares, works, number), raised("NoChamber", number))


class Guarantees(unittest.TestCase):
    def test_a_tick_is_as_the_second_reading_has_it(self):
        for seed in range(600):
            works = some_works(seed)
            for function, still in ((bare_tick, False), (still_tick, True)):
                state = oracle.opened(works)
                oracle.steps_on(state, still)
                self.assertEqual(function(works), oracle.closed(state))
            self.assertEqual(tick_parts(works)[4], bare_tick(works))

    def test_heat_is_accounted_for(self):
        for seed in range(300):
            works = some_works(seed)
            now = works
            for tick in range(6):
                now = still_tick(now) if (tick + seed) % 4 == 0 else bare_tick(now)
                gained = [one - other for one, other in zip(now[2], works[2])]
                self.assertEqual(heat_in(works) + gained[3], heat_in(now) + gained[1] + gained[2])

    def test_each_share_is_what_it_says(self):
        for seed in range(150):
            works = some_works(seed)
            behind = bare_tick(works)
            shares = [heat_shares(works, number) for number in range(len(works[1]))]
            for number, (air, burnt, earth) in enumerate(shares):
                self.assertEqual(works[1][number][1] + air + burnt - earth, behind[1][number][1])
            self.assertEqual(sum(share[1] for share in shares), behind[2][3] - works[2][3])
            self.assertEqual(sum(share[2] for share in shares), behind[2][2] - works[2][2])
            self.assertEqual(-sum(share[0] for share in shares), behind[2][1] - works[2][1])
            self.assertEqual(burners(works), tuple(number for number, share in enumerate(shares) if share[1]))

    def test_what_changes_by_a_tick(self):
        found = [0] * 4
        for seed in range(400):
            works = some_works(seed)
            behind = bare_tick(works)
            bound = works[0][2]
            pairs = list(enumerate(zip(works[1], behind[1])))
            rows = (tuple(n for n, (old, new) in pairs if old[1] < bound and new[1] >= bound),
                    tuple(n for n, (old, new) in pairs if old[1] >= bound and new[1] < bound),
                    tuple(n for n, (old, new) in pairs if old[6] and not new[6]),
                    tuple(n for n, (old, new) in pairs if isinstance(old[0], tuple) and type(new[0]) is int))
            self.assertEqual((kindled(works), fallen(works), torn_next(works), slag_next(works)), rows)
            found = [many + len(row) for many, row in zip(found, rows)]
        self.assertGreater(min(found), 4)

    def test_more_heat_in_a_draught_leaves_none_with_less(self):
        for seed in range(150):
            works = some_works(seed)
            aired = tick_parts(works)[0]
            for row in all_draughts(works):
                for number in row:
                    chambers = [list(chamber) for chamber in kept(works[1])]
                    chambers[number][1] += 1 + seed % 3
                    more = tick_parts((works[0], tuple(tuple(own) for own in chambers), works[2]))[0]
                    self.assertTrue(all(aired[1][k][1] <= more[1][k][1] for k in row))
                    self.assertLessEqual(aired[2][1], more[2][1])

    def test_heats_of_draughts_come_of_what_heats_before_tells(self):
        for seed in range(150):
            works = some_works(seed)
            aired = tick_parts(works)[0]
            for row in all_draughts(works):
                first = tuple(works[1][number][1] for number in row)
                behind, flue = air_through(first)
                self.assertEqual(behind, tuple(aired[1][number][1] for number in row))
                self.assertIn(first, heats_before(behind, flue))


if __name__ == "__main__":
    unittest.main()
