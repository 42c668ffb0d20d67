"""kinds.py: [4]."""

import itertools
import unittest

from ringkiln.kinds import (course_heats, drawn_as, firing_heats, is_kind, is_make, is_pile, load_behind,
                            orders_that_fire, pile_less, pile_put, stay_left)
from tests.support import Numbers, answer, raised, some_green, some_make, some_pile

BRICK, TILE = (20, 2, 40), (25, 1, 35)
MAKE = ((BRICK, TILE), 5, 10, 8, 30, 0)


class Things(unittest.TestCase):
    def test_kinds(self):
        for thing in ((1, 1, 1), (20, 2, 20), (20, 2, 40), (5000, 900, 9000)):
            self.assertIs(is_kind(thing), True, thing)
        for thing in ((0, 1, 5), (-1, 1, 5), (5, 0, 5), (5, -1, 5), (5, 1, 4), (True, 1, 5), (1, True, 5), (1, 1, True),
                      [20, 2, 40], (20, 2), (20, 2, 40, 1), (), None, 7, "abc", ("20", 2, 40), (20, None, 40), True):
            self.assertIs(is_kind(thing), False, thing)

    def test_makes(self):
        for earth in (0, 2, 3, 5000):
            self.assertIs(is_make(((BRICK,), 0, 1, 1, 1, earth)), True)
        good = ((BRICK, TILE), 5, 10, 8, 30, 0)
        self.assertIs(is_make(good), True)
        wrong = {0: ((), [BRICK], BRICK, ([20, 2, 40],), (BRICK, 7), None, (0, 1, 5)), 1: (-1, True, None, "1"),
                 2: (0, -1, True), 3: (0, -1, True), 4: (0, -1, True), 5: (1, -1, True, False, None)}
        for place, values in wrong.items():
            for value in values:
                thing = good[:place] + (value,) + good[place + 1:]
                self.assertIs(is_make(thing), False, thing)
        for thing in (list(good), good[:5], good + (0,), (), None, 3, "make"):
            self.assertIs(is_make(thing), False, thing)

    def test_piles(self):
        for thing in ((), (1,), (3, 3, 5), (1, 2, 900), tuple(range(1, 40))):
            self.assertIs(is_pile(thing), True, thing)
        for thing in ([], [3], (0,), (-1, 3), (5, 3), (3, 5, 4), (True,), (1, True), (1, None), None, 3, "", ((3,),)):
            self.assertIs(is_pile(thing), False, thing)


class Piles(unittest.TestCase):
    def test_put_together_they_are_sorted(self):
        self.assertEqual(pile_put((3, 9), (1, 5, 12)), (1, 3, 5, 9, 12))
        self.assertEqual(pile_put((), ()), ())
        self.assertEqual(pile_put((), (4,)), (4,))
        self.assertEqual(pile_put((4, 4), (4,)), (4, 4, 4))

    def test_less_the_first_pieces(self):
        self.assertEqual([pile_less((3, 5, 9), many) for many in range(4)], [(3, 5, 9), (5, 9), (9,), ()])
        self.assertEqual(pile_less((), 0), ())

    def test_not_so_many_pieces(self):
        self.assertEqual(answer(pile_less, (), 1), raised("Unfit"))
        self.assertEqual(answer(pile_less, (3, 5, 9), 4), raised("Unfit"))

    def test_what_is_put_may_be_taken_off(self):
        for seed in range(60):
            numbers = Numbers(seed)
            pile, other = some_pile(numbers, 5), some_pile(numbers, 5)
            both = pile_put(pile, other)
            self.assertEqual(both, pile_put(other, pile))
            self.assertEqual(sorted(pile + other), list(both))
            for many in range(len(both) + 1):
                self.assertEqual(both[:many] + pile_less(both, many), both)


class Heats(unittest.TestCase):
    def test_each_course_has_lag_less(self):
        self.assertEqual(course_heats(MAKE, 12, 4), (12, 7, 2, 0))
        self.assertEqual(course_heats(MAKE, 0, 2), (0, 0))
        self.assertEqual(course_heats(MAKE, 12, 0), ())
        self.assertEqual(course_heats(MAKE[:1] + (0,) + MAKE[2:], 12, 3), (12, 12, 12))

    def test_behind_no_heats_it_is_as_it_was(self):
        for load in (None, 7, ((0, 5, 3),)):
            self.assertEqual(load_behind(MAKE, load, ()), load)

    def test_marks_count_by_the_heat_of_the_course(self):
        load = ((0, 10, 0), (0, 10, 4))
        self.assertEqual(load_behind(MAKE, load, (19,)), load)
        self.assertEqual(load_behind(MAKE, load, (20,)), ((0, 10, 1), (0, 10, 4)))
        self.assertEqual(load_behind(MAKE, load, (24,)), ((0, 10, 1), (0, 10, 4)))
        self.assertEqual(load_behind(MAKE, load, (25, 40)), ((0, 10, 2), (0, 10, 6)))

    def test_more_than_melt_of_one_course_makes_slag_of_all(self):
        self.assertEqual(load_behind(MAKE, ((0, 10, 0), (1, 7, 9)), (40,)), ((0, 10, 1), (1, 7, 10)))
        self.assertEqual(load_behind(MAKE, ((0, 10, 0), (1, 7, 9)), (41,)), 17)
        self.assertEqual(load_behind(MAKE, ((1, 10, 0), (0, 7, 9)), (36, 0, 90)), 17)
        self.assertEqual(load_behind(MAKE, ((0, 1, 0), (0, 2, 0), (1, 3, 0), (1, 4, 9)), (41, 2)), 10)

    def test_a_course_below_0_of_heat_has_none(self):
        low = (((1, 1, 9),), 50, 1, 1, 1, 0)
        self.assertEqual(load_behind(low, ((0, 5, 0), (0, 5, 0)), (9,)), ((0, 5, 1), (0, 5, 0)))

    def test_slag_and_nothing_stay(self):
        self.assertIsNone(load_behind(MAKE, None, (50, 900)))
        self.assertEqual(load_behind(MAKE, 7, (50, 900)), 7)

    def test_in_two_parts_it_is_the_same(self):
        for seed in range(100):
            numbers = Numbers(seed)
            make = some_make(numbers)
            load = tuple(pair + (0,) for pair in some_green(numbers, make))
            heats = tuple(numbers.below(50) for _ in range(6))
            for cut in range(7):
                self.assertEqual(load_behind(make, load_behind(make, load, heats[:cut]), heats[cut:]),
                                 load_behind(make, load, heats))


class Drawn(unittest.TestCase):
    def test_good_from_stay_on(self):
        self.assertEqual(drawn_as(MAKE, ((0, 100, 1), (0, 10, 2), (1, 3, 1), (1, 4, 0), (0, 1, 9))), (14, 104))

    def test_no_set(self):
        for function in (drawn_as, stay_left):
            for load in (None, 1, 150):
                self.assertEqual(answer(function, MAKE, load), raised("Unfit"))

    def test_stay_left(self):
        self.assertEqual(stay_left(MAKE, ((0, 100, 0), (1, 50, 0))), 2)
        self.assertEqual(stay_left(MAKE, ((0, 100, 1), (1, 50, 0))), 1)
        self.assertEqual(stay_left(MAKE, ((0, 100, 2), (1, 50, 0))), 1)
        self.assertEqual(stay_left(MAKE, ((0, 100, 2), (1, 50, 1))), 0)
        self.assertEqual(stay_left(MAKE, ((0, 100, 9),)), 0)
        steep = (MAKE[0], 18) + MAKE[2:]
        self.assertEqual(stay_left(steep, ((0, 1, 0), (1, 1, 0))), 2)

    def test_so_many_ticks_in_firing_heats_make_all_good(self):
        seen = 0
        for seed in range(200):
            numbers = Numbers(seed)
            make = some_make(numbers)
            green = some_green(numbers, make)
            load = tuple(pair + (numbers.below(3),) for pair in green)
            bounds = firing_heats(make, green)
            if bounds is None:
                continue
            seen += 1
            left = stay_left(make, load)
            for heat in bounds:
                self.assertEqual(drawn_as(make, load_behind(make, load, (heat,) * left))[1], 0)
                if left:
                    self.assertNotEqual(drawn_as(make, load_behind(make, load, (heat,) * (left - 1)))[1], 0)
        self.assertGreater(seen, 50)


class Firing(unittest.TestCase):
    def test_bounds(self):
        self.assertEqual(firing_heats(MAKE, ((0, 1),)), (20, 40))
        self.assertEqual(firing_heats(MAKE, ((0, 1), (0, 1))), (25, 40))
        self.assertEqual(firing_heats(MAKE, ((1, 1), (1, 1), (1, 1))), (35, 35))
        self.assertIsNone(firing_heats(MAKE, ((1, 1), (1, 1), (1, 1), (1, 1))))

    def test_just_in_these_heats_all_has_mark_and_none_melts(self):
        found = {True: 0, False: 0}
        for seed in range(150):
            numbers = Numbers(seed)
            make = some_make(numbers)
            green = some_green(numbers, make)
            load = tuple(pair + (0,) for pair in green)
            all_marked = tuple(pair + (1,) for pair in green)
            fit = [heat for heat in range(90) if load_behind(make, load, (heat,)) == all_marked]
            bounds = firing_heats(make, green)
            found[bounds is None] += 1
            if bounds is None:
                self.assertEqual(fit, [])
            else:
                self.assertEqual(fit, list(range(bounds[0], bounds[1] + 1)))
        self.assertGreater(min(found.values()), 5)

    def test_orders(self):
        flat = (((20, 2, 40), (60, 1, 70)), 0, 10, 8, 30, 0)
        self.assertEqual(orders_that_fire(flat, ((0, 1), (1, 1))), [])
        self.assertEqual(orders_that_fire(MAKE, ((0, 7),)), [((0, 7),)])
        self.assertEqual(orders_that_fire(MAKE, ((0, 7), (0, 7))), [((0, 7), (0, 7))])
        self.assertEqual(orders_that_fire(MAKE, ((0, 7), (0, 3))), [((0, 3), (0, 7)), ((0, 7), (0, 3))])
        high = (((20, 2, 40), (30, 1, 50)), 10, 10, 8, 30, 0)
        self.assertEqual(orders_that_fire(high, ((0, 1), (1, 1))), [((0, 1), (1, 1)), ((1, 1), (0, 1))])
        higher = (((20, 2, 29), (30, 1, 50)), 10, 10, 8, 30, 0)
        self.assertEqual(orders_that_fire(higher, ((0, 1), (1, 1))), [((1, 1), (0, 1))])

    def test_orders_are_all_that_fire(self):
        for seed in range(120):
            numbers = Numbers(seed)
            make = some_make(numbers)
            green = tuple((numbers.below(len(make[0])), 1 + numbers.below(2)) for _ in range(1 + numbers.below(4)))
            orders = sorted({order for order in itertools.permutations(green)
                             if firing_heats(make, order) is not None})
            self.assertEqual(orders_that_fire(make, green), orders)


if __name__ == "__main__":
    unittest.main()
