"""draughts.py: [6]."""

import itertools
import unittest

from ringkiln.draughts import (all_draughts, changed, draught_from, in_draught, is_draught, is_openings, lost_by,
                               openings_for, quiet, stopped_by, why_quiet, won_by)
from tests import oracle
from tests.support import NOUGHTS, answer, raised, some_works

MAKE = (((20, 2, 40),), 5, 10, 8, 30, 0)


def doors(text):
    """A WORKS of a word for each CHAMBER: w open wicket, d open damper, s whole screen, x SLAG, - none of these."""
    chambers = []
    for word in text.split():
        load = 5 if "x" in word else None
        chambers.append((load, 0, 0, (), "w" in word, "d" in word, "s" in word))
    return MAKE, tuple(chambers), NOUGHTS


class Rows(unittest.TestCase):
    def test_a_row_goes_to_the_first_open_damper(self):
        rows = {"w - d": (0, 1, 2), "w d -": (0, 1), "wd - -": (0,), "w - - ds": (0, 1, 2, 3), "wds - -": (0,),
                "w - ds s": (0, 1, 2), "w d w": (0, 1)}
        for text, row in rows.items():
            self.assertEqual(draught_from(doors(text), 0), row, text)
            self.assertIsNone(stopped_by(doors(text), 0), text)

    def test_what_stops_it(self):
        rows = {"- - d": ("wicket", 0), "x - d": ("wicket", 0), "wx - d": ("slag", 0), "wxd - -": ("slag", 0),
                "ws - d": ("screen", 0), "w w d": ("wicket", 1), "w wd -": ("wicket", 1), "w wx d": ("wicket", 1),
                "w x d": ("slag", 1), "w xd -": ("slag", 1), "w s d": ("screen", 1), "w - s d": ("screen", 2),
                "w - -": ("round", 0), "w - s": ("screen", 2), "w s w": ("screen", 1), "ws w -": ("screen", 0),
                "w - - - wd": ("wicket", 4)}
        for text, stop in rows.items():
            self.assertEqual(stopped_by(doors(text), 0), stop, text)
            self.assertIsNone(draught_from(doors(text), 0), text)

    def test_round_the_ring(self):
        self.assertEqual(draught_from(doors("- d w"), 2), (2, 0, 1))
        self.assertEqual(stopped_by(doors("- - w"), 2), ("round", 2))
        self.assertEqual(all_draughts(doors("d w d w")), ((1, 2), (3, 0)))

    def test_all_and_quiet(self):
        works = doors("w d s wd x w - d")
        self.assertEqual(all_draughts(works), ((0, 1), (3,), (5, 6, 7)))
        self.assertEqual(quiet(works), (2, 4))
        self.assertEqual([in_draught(works, number) for number in range(8)],
                         [(0, 1), (0, 1), None, (3,), None, (5, 6, 7), (5, 6, 7), (5, 6, 7)])
        self.assertEqual(all_draughts(doors("- - -")), ())
        self.assertEqual(quiet(doors("- - -")), (0, 1, 2))

    def test_is_draught(self):
        works = doors("d w - d w")
        for thing in ((1, 2, 3), (4, 0)):
            self.assertIs(is_draught(works, thing), True)
        for thing in ((0, 4), (1, 2), [1, 2, 3], (4, False), (True, 2, 3), (1, 2, 3.0), (), None, 4, "41", ((4, 0),),
                      (4, 0, 1), (4,)):
            self.assertIs(is_draught(works, thing), False, thing)

    def test_no_chamber(self):
        works = doors("w - d")
        for function in (draught_from, stopped_by, in_draught, why_quiet, openings_for):
            for number in (-1, 3, 40):
                self.assertEqual(answer(function, works, number), raised("NoChamber", number))
        self.assertEqual(answer(is_openings, works, -1, None), raised("NoChamber", -1))
        for function in (lost_by, won_by):
            self.assertEqual(answer(function, works, ("damper", 3)), raised("NoChamber", 3))
            self.assertEqual(answer(function, works, ("wicket", -1)), raised("NoChamber", -1))
        self.assertEqual(answer(changed, works, (("damper", 0), ("screen", -2), ("wicket", 9))),
                         raised("NoChamber", -2))


class WhyQuiet(unittest.TestCase):
    def test_going_back(self):
        rows = {("w - d", 2): None, ("w - d x", 3): ("slag", 3), ("w - d wx", 3): ("slag", 3),
                ("w x d", 2): ("slag", 1), ("- - -", 1): ("round", 1), ("- d -", 2): ("damper", 1),
                ("- s -", 2): ("screen", 1), ("- sd -", 2): ("damper", 1), ("w d -", 2): ("damper", 1),
                ("w - -", 2): ("round", 0), ("w - s", 1): ("screen", 2), ("w w d", 0): ("wicket", 1),
                ("ws - d", 0): ("screen", 0), ("w - d s", 3): ("damper", 2), ("xd - d", 1): ("damper", 0),
                ("xs - d", 1): ("screen", 0), ("wx - d", 2): ("slag", 0), ("d - -", 0): ("round", 0),
                ("s - -", 2): ("screen", 0), ("w - - s d", 2): ("screen", 3)}
        for (text, number), why in rows.items():
            self.assertEqual(why_quiet(doors(text), number), why, (text, number))

    def test_just_quiet_ones_have_a_reason(self):
        for seed in range(200):
            works = some_works(seed)
            has_reason = [number for number in range(len(works[1])) if why_quiet(works, number) is not None]
            self.assertEqual(tuple(has_reason), quiet(works))


class Changes(unittest.TestCase):
    def test_changed(self):
        works = doors("w - d")
        self.assertEqual(changed(works, (("damper", 0), ("screen", 1), ("wicket", 0))), doors("d s d"))
        self.assertEqual(changed(works, ()), works)
        self.assertEqual(changed(changed(works, (("screen", 2),)), (("screen", 2),)), works)

    def test_lost_and_won(self):
        works = doors("w - d - wd")
        self.assertEqual((lost_by(works, ("damper", 3)), won_by(works, ("damper", 3))), ((), ()))
        self.assertEqual((lost_by(works, ("wicket", 1)), won_by(works, ("wicket", 1))), (((0, 1, 2),), ((1, 2),)))
        self.assertEqual((lost_by(works, ("damper", 4)), won_by(works, ("damper", 4))), (((4,),), ()))
        self.assertEqual((lost_by(works, ("damper", 2)), won_by(works, ("damper", 2))), (((0, 1, 2),), ()))
        self.assertEqual((lost_by(works, ("wicket", 0)), won_by(works, ("wicket", 0))), (((0, 1, 2),), ()))
        joined = doors("w - d - w")
        self.assertEqual((lost_by(joined, ("wicket", 0)), won_by(joined, ("wicket", 0))),
                         (((0, 1, 2),), ((4, 0, 1, 2),)))

    def test_openings(self):
        self.assertEqual(openings_for(doors("w - d"), 1), ())
        self.assertEqual(openings_for(doors("w s d"), 1), (("damper", 1),))
        self.assertEqual(openings_for(doors("w s d"), 2), (("screen", 1),))
        self.assertEqual(openings_for(doors("- - -"), 1), (("damper", 0), ("wicket", 1)))
        self.assertEqual(openings_for(doors("s s s"), 1), (("damper", 1), ("wicket", 1)))
        self.assertEqual(openings_for(doors("wx s d"), 2), (("wicket", 2),))

    def test_no_openings_for_slag(self):
        works = doors("w x d")
        self.assertEqual(answer(openings_for, works, 1), raised("NoPaper"))
        for changes in itertools.chain.from_iterable(itertools.combinations(
                [(part, number) for part in ("damper", "screen", "wicket") for number in range(3)], many)
                for many in range(10)):
            self.assertIs(is_openings(works, 1, changes), False)

    def test_is_openings(self):
        works = doors("ws - d")
        for thing in ((("screen", 0),), (("damper", 1), ("screen", 0)), (("screen", 0), ("screen", 2))):
            self.assertIs(is_openings(works, 1, thing), True, thing)
        self.assertIs(is_openings(doors("w - d"), 1, ()), True)
        for thing in ((), (("damper", 1),), [("screen", 0)], (["screen", 0],), (("screen", 0), ("screen", 0)),
                      (("screen", 0), ("screen", 1), ("screen", 1)), (("damper", 1), ("damper", 1), ("screen", 0)),
                      (("screen", 0), ("damper", 1)), (("screen", False),), (("screen", 3), ("screen", 0)),
                      (("screen", 0), ("screen", 3)), (("screen", -3),), (("screen", 0, 0),), (("door", 0),), None, 3,
                      (("screen", 0), None), ((None, 0),), (((), 0),), "screen", ("screen", 0), ((0, "screen"),)):
            self.assertIs(is_openings(works, 1, thing), False, thing)

    def test_openings_are_the_least_of_all(self):
        for seed in range(60):
            works = some_works(seed)
            works = (works[0], works[1][:3], works[2])
            parts = [(part, number) for part in ("damper", "screen", "wicket") for number in range(3)]
            for number in range(3):
                if type(works[1][number][0]) is int:
                    self.assertEqual(answer(openings_for, works, number), raised("NoPaper"))
                    continue
                least = next(changes for many in range(10) for changes in itertools.combinations(parts, many)
                             if number not in quiet(changed(works, changes)))
                self.assertEqual(openings_for(works, number), least)
                self.assertIs(is_openings(works, number, least), True)


class Guarantees(unittest.TestCase):
    def test_draughts_are_the_stretches_that_can_be(self):
        found = 0
        for seed in range(400):
            works = some_works(seed)
            rows = tuple(tuple(row) for row in oracle.stretches(oracle.opened(works)))
            self.assertEqual(all_draughts(works), rows)
            found += len(rows)
        self.assertGreater(found, 100)

    def test_no_chamber_lies_in_two(self):
        for seed in range(300):
            works = some_works(seed)
            numbers = [number for row in all_draughts(works) for number in row]
            self.assertEqual(len(numbers), len(set(numbers)))
            self.assertEqual(sorted(numbers + list(quiet(works))), list(range(len(works[1]))))

    def test_wickets_dampers_and_slag(self):
        for seed in range(300):
            chambers = some_works(seed)[1]
            for row in all_draughts(some_works(seed)):
                self.assertEqual([chambers[number][4] for number in row], [True] + [False] * (len(row) - 1))
                self.assertEqual([chambers[number][5] for number in row], [False] * (len(row) - 1) + [True])
                self.assertFalse(any(type(chambers[number][0]) is int for number in row))

    def test_openings_open_and_no_fewer_do(self):
        for seed in range(40):
            works = some_works(seed)
            parts = [(part, number) for part in ("damper", "screen", "wicket") for number in range(len(works[1]))]
            for number in quiet(works):
                if type(works[1][number][0]) is int:
                    continue
                changes = openings_for(works, number)
                self.assertNotIn(number, quiet(changed(works, changes)))
                for fewer in itertools.combinations(parts, min(2, len(changes) - 1)):
                    self.assertIs(is_openings(works, number, fewer), False)

    def test_lost_and_won_are_what_differs(self):
        for seed in range(80):
            works = some_works(seed)
            for part in ("damper", "screen", "wicket"):
                for number in range(len(works[1])):
                    before = set(all_draughts(works))
                    behind = set(all_draughts(changed(works, ((part, number),))))
                    self.assertEqual(lost_by(works, (part, number)), tuple(sorted(before - behind)))
                    self.assertEqual(won_by(works, (part, number)), tuple(sorted(behind - before)))


if __name__ == "__main__":
    unittest.main()
