"""chambers.py: [5]."""

import unittest

from ringkiln.chambers import (bricks_in, empty_works, is_chamber, is_works, mirror_works, seen_from, test_holds as
                               holds_there, turned_works, with_chamber)
from ringkiln.deeds import deeds_done
from ringkiln.runs import works_rows
from tests.support import NOUGHTS, SHUT, answer, raised, some_rules, some_works

MAKE = (((20, 2, 40), (25, 1, 35)), 5, 10, 8, 30, 0)
WARE = ((0, 100, 0), (1, 50, 0))
BAKING = (WARE, 12, 12, (3, 5), True, False, True)
RING = (MAKE, (BAKING, SHUT, (9, 30, 4, (), False, True, False)), (1, 2, 3, 4, 5, 6, 7))


def put(row, place, value):
    return row[:place] + (value,) + row[place + 1:]


class Things(unittest.TestCase):
    def test_chambers(self):
        for thing in (BAKING, SHUT, put(BAKING, 0, 1), put(BAKING, 2, 0), put(SHUT, 1, 5000), put(BAKING, 3, ()),
                      put(BAKING, 0, ((0, 1, 0),) * 9), put(BAKING, 0, ((1, 1, 77),)), put(BAKING, 2, 900)):
            self.assertIs(is_chamber(MAKE, thing), True, thing)
        wrong = {0: (0, -1, True, False, (), [(0, 1, 0)], ([0, 1, 0],), ((2, 1, 0),), ((-1, 1, 0),), ((0, 0, 0),),
                     ((0, 1, -1),), ((True, 1, 0),), ((0, True, 0),), ((0, 1, False),), ((0, 1),), "set", (0, 1, 0),
                     ((0, 1, 0), 7), ((0, 1, 0, 0),)),
                 1: (-1, True, None), 2: (-1, True, None), 3: ([], (5, 3), (0,), None, (True,)),
                 4: (0, 1, None, "yes"), 5: (0, 1, None), 6: (0, 1, None)}
        for place, values in wrong.items():
            for value in values:
                self.assertIs(is_chamber(MAKE, put(BAKING, place, value)), False, (place, value))
        for thing in (put(SHUT, 2, 1), list(BAKING), BAKING[:6], BAKING + (True,), None, 7, "chamber", ()):
            self.assertIs(is_chamber(MAKE, thing), False, thing)

    def test_works(self):
        self.assertIs(is_works(RING), True)
        self.assertIs(is_works(put(RING, 1, RING[1] * 9)), True)
        for thing in (put(RING, 1, RING[1][:2]), put(RING, 1, list(RING[1])), put(RING, 1, RING[1] + (7,)),
                      put(RING, 0, MAKE[:5] + (1,)), put(RING, 0, list(MAKE)), put(RING, 2, (0,) * 6),
                      put(RING, 2, (0,) * 8), put(RING, 2, (0,) * 6 + (-1,)), put(RING, 2, (False,) * 7),
                      put(RING, 2, [0] * 7), list(RING), RING[:2], RING + (0,), None, 0, "works", (), ((), (), ())):
            self.assertIs(is_works(thing), False, thing)

    def test_a_works_has_kinds_of_its_own_make_alone(self):
        one_kind = put(MAKE, 0, MAKE[0][:1])
        self.assertIs(is_works(put(RING, 0, one_kind)), False)
        self.assertIs(is_works(put(put(RING, 0, one_kind), 1, (SHUT,) * 3)), True)


class Rings(unittest.TestCase):
    def test_empty(self):
        for many in (3, 5, 12):
            self.assertEqual(empty_works(MAKE, many), (MAKE, (SHUT,) * many, NOUGHTS))
            self.assertIs(is_works(empty_works(MAKE, many)), True)

    def test_with_chamber(self):
        self.assertEqual(with_chamber(RING, 0, SHUT), (MAKE, (SHUT, SHUT, RING[1][2]), RING[2]))
        self.assertEqual(with_chamber(RING, 2, BAKING), (MAKE, (BAKING, SHUT, BAKING), RING[2]))
        for number in (-1, 3, 99):
            self.assertEqual(answer(with_chamber, RING, number, SHUT), raised("NoChamber", number))

    def test_turned(self):
        a, b, c = RING[1]
        turned = {0: (a, b, c), 1: (b, c, a), 2: (c, a, b), 3: (a, b, c), -1: (c, a, b), -4: (c, a, b), 300: (a, b, c)}
        for by, chambers in turned.items():
            self.assertEqual(turned_works(RING, by), (MAKE, chambers, RING[2]))

    def test_mirror(self):
        four = (MAKE, tuple((None, heat, 0, (), False, False, screen)
                            for heat, screen in ((1, True), (2, False), (3, True), (4, False))), NOUGHTS)
        mirrored = mirror_works(four)
        self.assertEqual([part[1] for part in mirrored[1]], [4, 3, 2, 1])
        # From 4 to 3 stands the screen of 3, from 3 to 2 that of 2, from 2 to 1 that of 1, from 1 to 4 that of 4.
        self.assertEqual([part[6] for part in mirrored[1]], [True, False, True, False])
        five = with_chamber(four, 3, (None, 4, 0, (), True, True, True))
        self.assertEqual([part[6] for part in mirror_works(five)[1]], [True, False, True, True])
        self.assertEqual(mirror_works(five)[1][0][4:6], (True, True))

    def test_bricks(self):
        self.assertEqual(bricks_in(RING), (0, 150, 9))
        ready = put(BAKING, 0, ((0, 100, 2), (1, 50, 0), (1, 7, 1)))
        self.assertEqual(bricks_in((MAKE, (ready, ready, RING[1][2]), RING[2])), (214, 100, 9))
        self.assertEqual(bricks_in(empty_works(MAKE, 3)), (0, 0, 0))


class Tests(unittest.TestCase):
    def test_each_test(self):
        rows = {("empty",): (False, True, False), ("set",): (True, False, False), ("slag",): (False, False, True),
                ("below", 12): (False, True, False), ("below", 13): (True, True, False), ("below", 0): (False,) * 3,
                ("from", 12): (True, False, True), ("from", 13): (False, False, True), ("from", 0): (True,) * 3,
                ("pieces", 0): (False,) * 3, ("pieces", 1): (False, True, True), ("pieces", 2): (False, True, True),
                ("pieces", 3): (True,) * 3, ("wicket", True): (True, False, False),
                ("wicket", False): (False, True, True), ("damper", True): (False, False, True),
                ("damper", False): (True, True, False), ("screen", True): (True, True, False),
                ("screen", False): (False, False, True)}
        for test, answers in rows.items():
            for number, expected in enumerate(answers):
                self.assertIs(holds_there(RING, number, test), expected, (number, test))

    def test_no_chamber(self):
        for number in (-1, 3, -3):
            self.assertEqual(answer(holds_there, RING, number, ("empty",)), raised("NoChamber", number))
            self.assertEqual(answer(seen_from, RING, number), raised("NoChamber", number))


class Seen(unittest.TestCase):
    def test_stood_is_cut_to_stay(self):
        load = ((0, 1, 1), (0, 1, 2), (0, 1, 3), (1, 1, 0), (1, 1, 1), (1, 1, 5))
        works = with_chamber(RING, 1, (load, 4, 30, (2,), False, True, True))
        seen = seen_from(works, 1)
        self.assertEqual([course[2] for course in seen[0][0]], [1, 2, 2, 0, 1, 1])
        self.assertEqual(seen[0][1:], (4, (2,), False, True, True))
        self.assertEqual(seen[1], (9, 30, (), False, True, False))
        self.assertEqual(seen[2], (WARE, 12, (3, 5), True, False, True))

    def test_from_each_chamber(self):
        for seed in range(60):
            works = some_works(seed)
            for number in range(len(works[1])):
                self.assertEqual(seen_from(works, number), seen_from(turned_works(works, number), 0))


class Guarantees(unittest.TestCase):
    def test_a_ring_of_n_turned_by_n_is_the_same(self):
        for seed in range(100):
            works = some_works(seed)
            many = len(works[1])
            self.assertEqual(turned_works(works, many), works)
            for by in range(-many, many):
                self.assertEqual(turned_works(turned_works(works, by), -by), works)

    def test_the_mirror_of_the_mirror_is_the_works(self):
        for seed in range(100):
            works = some_works(seed)
            self.assertEqual(mirror_works(mirror_works(works)), works)
            self.assertIs(is_works(mirror_works(works)), True)

    def test_what_is_seen_tells_what_comes(self):
        for seed in range(100):
            works = some_works(seed)
            make = works[0]
            chambers = []
            for load, heat, top, *rest in works[1]:
                if isinstance(load, tuple):
                    load = tuple((kind, count, stood + 3 if stood >= make[0][kind][1] else stood)
                                 for kind, count, stood in load)
                chambers.append((load, heat, top + 5 if load is not None else 0, *rest))
            other = turned_works((make, tuple(chambers), (9,) * 7), 1)
            rules = some_rules(seed, make)
            for one, two in zip(works_rows(works, rules, (), (), 6), works_rows(other, rules, (), (), 6)):
                self.assertEqual(seen_from(one, 1), seen_from(two, 0))

    def test_bricks_in_tells_what_drawing_and_clearing_bring(self):
        for seed in range(60):
            make, chambers, ledger = some_works(seed)
            ready = tuple(part[:1] + (0,) + part[2:4] + (True,) + part[5:] for part in chambers)
            deeds = tuple(("draw" if isinstance(part[0], tuple) else "clear", number)
                          for number, part in enumerate(ready) if part[0] is not None)
            emptied = deeds_done((make, ready, ledger), deeds)
            self.assertEqual(bricks_in((make, chambers, ledger)),
                             tuple(now - before for now, before in zip(emptied[2][4:], ledger[4:])))


if __name__ == "__main__":
    unittest.main()
