"""deeds.py: [8], and the table of DEEDS [3]."""

import unittest

from ringkiln.chambers import is_works, turned_works
from ringkiln.deeds import (can_do, deed_turned, deeds_done, deeds_here, done, doors_between, either_order, is_act,
                            is_deed, is_told, undo_of, why_not)
from tests import oracle
from tests.support import NOUGHTS, Numbers, answer, raised, some_deed, some_works

MAKE = (((20, 2, 50), (25, 1, 35)), 5, 20, 12, 40, 10)
WARE = ((0, 100, 2), (1, 40, 0), (0, 7, 1), (1, 3, 5))


def part(load=None, heat=0, top=0, coal=(), doors=""):
    return load, heat, top, coal, "w" in doors, "d" in doors, "s" in doors


def alone(chamber, ledger=NOUGHTS):
    """A WORKS with this CHAMBER as number 1."""
    return MAKE, (part(), chamber, part()), ledger


def behind(chamber, deed):
    """The CHAMBER behind a DEED at it."""
    return done(alone(chamber), deed)[1][1]


class Things(unittest.TestCase):
    def test_deeds(self):
        for thing in (("set", 0, ((0, 1),)), ("set", 99, ((77, 5), (0, 900))), ("draw", 0), ("clear", 12345),
                      ("brick", 2), ("open", 2), ("damper", 0, True), ("screen", 0, False), ("coal", 1, ()),
                      ("coal", 1, (3, 3)), ("wood", 1, 0), ("wood", 1, 5000)):
            self.assertIs(is_deed(thing), True, thing)
        for thing in (("set", 0, ()), ("set", 0), ("set", 0, ((0, 0),)), ("set", 0, ((-1, 5),)), ("set", 0, ((0, 1, 0),)),
                      ("set", 0, [(0, 1)]), ("set", 0, ([0, 1],)), ("set", 0, (0, 1)), ("set", 0, ((True, 1),)),
                      ("set", 0, ((0, True),)), ("set", 0, None), ("draw", -1), ("draw", True), ("draw",), ("draw", 0, 0),
                      ("draw", None), ("Draw", 0), ("drawn", 0), ("brick", 0, True), ("open", 0, ()), ("clear", 0, 1),
                      ("damper", 0), ("window", 0, True), ("load", 0, True), ("damper", 0, 1), ("damper", 0, 0), ("damper", 0, None), ("screen", 0, True, True),
                      ("coal", 1), ("coal", 1, (5, 3)), ("coal", 1, (0,)), ("coal", 1, [3]), ("coal", 1, 3),
                      ("coal", 1, (True,)), ("wood", 1), ("wood", 1, -1), ("wood", 1, True), ("wood", 1, None),
                      ["draw", 0], (0, "draw"), ("draw", "0"), (), None, 7, "draw", True, (("draw",), 0), (None, 0)):
            self.assertIs(is_deed(thing), False, thing)

    def test_acts(self):
        for thing in (("draw",), ("set", ((0, 1),)), ("damper", True), ("coal", (1, 2)), ("wood", 0)):
            self.assertIs(is_act(thing), True, thing)
        for thing in (["draw"], "draw", (), None, 7, ("draw", 0), ("wood",), ("damper", 1), (None,), ((), True)):
            self.assertIs(is_act(thing), False, thing)

    def test_told(self):
        for thing in ((), ((1, ("draw", 0)),), ((1, ("draw", 0)), (1, ("brick", 0)), (9000, ("draw", 50)))):
            self.assertIs(is_told(thing), True, thing)
        for thing in ([], ((0, ("draw", 0)),), ((-1, ("draw", 0)),), ((True, ("draw", 0)),), ((2, ("draw", 0)),
                      (1, ("draw", 0))), ([1, ("draw", 0)],), ((1, ["draw", 0]),), ((1, ("draw",)),), ((1,),),
                      ((1, ("draw", 0), 0),), (1, ("draw", 0)), None, 3, "told", (7,), ("draw", 0)):
            self.assertIs(is_told(thing), False, thing)


class SetDrawClear(unittest.TestCase):
    def test_set(self):
        self.assertEqual(behind(part(None, 11, 0, (4,), "w"), ("set", 1, ((1, 5), (0, 6)))),
                         (((1, 5, 0), (0, 6, 0)), 11, 11, (4,), True, False, False))

    def test_draw(self):
        works = done(alone(part(WARE, 11, 48, (4,), "wds"), (1, 2, 3, 4, 5, 6, 7)), ("draw", 1))
        self.assertEqual(works, alone(part(None, 11, 0, (4,), "wds"), (1, 2, 3, 4, 108, 53, 7)))

    def test_clear(self):
        works = done(alone(part(60, 11, 48, (4,), "w"), (1, 2, 3, 4, 5, 6, 7)), ("clear", 1))
        self.assertEqual(works, alone(part(None, 11, 0, (4,), "w"), (1, 2, 3, 4, 5, 6, 67)))

    def test_bars_in_their_order(self):
        deeds = {("set", 1, ((0, 5),)): None, ("draw", 1): WARE, ("clear", 1): 60}
        for deed, fit in deeds.items():
            for load in (None, WARE, 60):
                for doors in ("", "w"):
                    for heat in (11, 12, 900):
                        bar = "load" if load != fit else "wicket" if doors == "" else "heat" if heat >= 12 else None
                        works = alone(part(load, heat, 0, (), doors))
                        self.assertEqual(why_not(works, deed), bar)
                        self.assertIs(can_do(works, deed), bar is None)
                        if bar is not None:
                            self.assertEqual(answer(done, works, deed), raised("Unfit"))


class Doors(unittest.TestCase):
    def test_what_they_do(self):
        full = (WARE, 30, 31, (4,), True, True, True)
        bare = (WARE, 30, 31, (4,), False, False, False)
        self.assertEqual(behind(full, ("brick", 1)), full[:4] + (False, True, True))
        self.assertEqual(behind(full, ("damper", 1, False)), full[:4] + (True, False, True))
        self.assertEqual(behind(full, ("screen", 1, False)), full[:4] + (True, True, False))
        self.assertEqual(behind(bare, ("open", 1)), bare[:4] + (True, False, False))
        self.assertEqual(behind(bare, ("damper", 1, True)), bare[:4] + (False, True, False))
        self.assertEqual(behind(bare, ("screen", 1, True)), bare[:4] + (False, False, True))
        for chamber, deeds in ((full, (("open", 1), ("damper", 1, True), ("screen", 1, True))),
                               (bare, (("brick", 1), ("damper", 1, False), ("screen", 1, False)))):
            for deed in deeds:
                self.assertEqual(why_not(alone(chamber), deed), "same")
                self.assertEqual(answer(done, alone(chamber), deed), raised("Unfit"))


class CoalAndWood(unittest.TestCase):
    def test_coal(self):
        self.assertEqual(behind(part(None, 3, 0, (4, 9)), ("coal", 1, (1, 4, 20)))[3], (1, 4, 4, 9, 20))
        self.assertEqual(why_not(alone(part()), ("coal", 1, ())), "nothing")
        self.assertEqual(answer(done, alone(part()), ("coal", 1, ())), raised("Unfit"))

    def test_wood(self):
        works = done(alone(part(WARE, 30, 33), (1, 2, 3, 4, 5, 6, 7)), ("wood", 1, 3))
        self.assertEqual(works, alone(part(WARE, 33, 33), (1, 2, 3, 7, 5, 6, 7)))
        self.assertEqual(behind(part(WARE, 30, 33), ("wood", 1, 4)), part(WARE, 34, 34))
        self.assertEqual(behind(part(7, 30, 1), ("wood", 1, 1)), part(7, 31, 31))
        self.assertEqual(behind(part(None, 30, 0), ("wood", 1, 50)), part(None, 80, 0))
        self.assertEqual(why_not(alone(part()), ("wood", 1, 0)), "nothing")
        self.assertEqual(answer(done, alone(part()), ("wood", 1, 0)), raised("Unfit"))

    def test_wood_tears_no_screen_and_melts_nothing(self):
        self.assertEqual(behind(part(WARE, 30, 33, (), "s"), ("wood", 1, 500)), part(WARE, 530, 530, (), "s"))


class Errors(unittest.TestCase):
    def test_no_chamber_then_no_kind_then_unfit(self):
        works = alone(part(WARE))
        for function in (can_do, why_not, done, undo_of):
            for number in (-1, 3, 50):
                self.assertEqual(answer(function, works, ("set", number, ((9, 1),))), raised("NoChamber", number))
                self.assertEqual(answer(function, works, ("open", number)), raised("NoChamber", number))
            self.assertEqual(answer(function, works, ("set", 1, ((1, 1), (2, 1), (9, 1)))), raised("NoKind", 2))
            self.assertEqual(answer(function, works, ("set", 1, ((-1, 1), (2, 1)))), raised("NoKind", -1))
        self.assertEqual(answer(done, works, ("set", 1, ((1, 1),))), raised("Unfit"))
        self.assertEqual(answer(undo_of, works, ("set", 1, ((1, 1),))), raised("Unfit"))

    def test_deeds_done_looks_at_each_when_its_turn_comes(self):
        works = alone(part(WARE, 3, 3, (), "w"))
        self.assertEqual(deeds_done(works, ()), works)
        self.assertEqual(deeds_done(works, (("draw", 1), ("set", 1, ((0, 5),)), ("brick", 1))),
                         alone(part(((0, 5, 0),), 3, 3), (0, 0, 0, 0, 103, 47, 0)))
        self.assertEqual(answer(deeds_done, works, (("draw", 1), ("draw", 1), ("draw", 9))), raised("Unfit"))
        self.assertEqual(answer(deeds_done, works, (("draw", 1), ("draw", 9), ("draw", 1))), raised("NoChamber", 9))
        self.assertEqual(answer(deeds_done, works, (("draw", 1), ("set", 1, ((2, 5),)))), raised("NoKind", 2))

    def test_either_order_looks_at_one_first(self):
        works = alone(part())
        self.assertEqual(answer(either_order, works, ("open", 7), ("open", 8)), raised("NoChamber", 7))
        self.assertEqual(answer(either_order, works, ("set", 0, ((5, 1),)), ("open", 8)), raised("NoKind", 5))
        self.assertEqual(answer(either_order, works, ("draw", 1), ("open", -8)), raised("NoChamber", -8))
        self.assertEqual(answer(either_order, works, ("draw", 1), ("set", 1, ((2, 5),))), raised("NoKind", 2))

    def test_deeds_here_and_turned(self):
        for number in (-1, 3):
            self.assertEqual(answer(deeds_here, alone(part()), number), raised("NoChamber", number))
            self.assertEqual(answer(deed_turned, ("draw", number), 1, 3), raised("NoChamber", number))


class MoreOfDeeds(unittest.TestCase):
    def test_deeds_here(self):
        self.assertEqual(deeds_here(alone(part(WARE, 11, 11, (), "wd")), 1),
                         [("brick", 1), ("damper", 1, False), ("draw", 1), ("screen", 1, True)])
        self.assertEqual(deeds_here(alone(part(9, 11, 11, (), "ws")), 1),
                         [("brick", 1), ("clear", 1), ("damper", 1, True), ("screen", 1, False)])
        self.assertEqual(deeds_here(alone(part(9, 12, 11, (), "w")), 1),
                         [("brick", 1), ("damper", 1, True), ("screen", 1, True)])
        self.assertEqual(deeds_here(alone(part()), 2), [("damper", 2, True), ("open", 2), ("screen", 2, True)])

    def test_turned(self):
        self.assertEqual(deed_turned(("set", 2, ((0, 5),)), 2, 3), ("set", 1, ((0, 5),)))
        self.assertEqual(deed_turned(("draw", 0), -1, 5), ("draw", 4))
        self.assertEqual(deed_turned(("wood", 4, 9), 0, 5), ("wood", 4, 9))
        self.assertEqual(deed_turned(("screen", 4, False), 501, 5), ("screen", 0, False))

    def test_undo(self):
        works = alone(part(WARE, 3, 3, (), "w"))
        undone = {("brick", 1): ("open", 1), ("open", 0): ("brick", 0), ("damper", 1, True): ("damper", 1, False),
                  ("screen", 2, True): ("screen", 2, False), ("draw", 1): None, ("coal", 1, (3,)): None,
                  ("wood", 0, 2): None}
        for deed, undo in undone.items():
            self.assertEqual(undo_of(works, deed), undo)
        self.assertIsNone(undo_of(alone(part(None, 0, 0, (), "w")), ("set", 1, ((0, 1),))))
        self.assertIsNone(undo_of(alone(part(5, 0, 0, (), "w")), ("clear", 1)))

    def test_either_order(self):
        works = alone(part(WARE, 3, 3, (), "w"))
        yes = ((("brick", 1), ("open", 0)), (("coal", 1, (3,)), ("wood", 1, 2)), (("draw", 1), ("coal", 1, (4,))),
               (("coal", 1, (3, 9)), ("coal", 1, (4,))), (("wood", 1, 3), ("wood", 1, 5)))
        no = ((("brick", 1), ("draw", 1)), (("draw", 1), ("set", 1, ((0, 5),))), (("brick", 1), ("brick", 1)),
              (("wood", 1, 9), ("draw", 1)), (("draw", 1), ("draw", 1)), (("clear", 1), ("brick", 1)))
        for one, other in yes:
            self.assertIs(either_order(works, one, other), True)
            self.assertIs(either_order(works, other, one), True)
        for one, other in no:
            self.assertIs(either_order(works, one, other), False)
            self.assertIs(either_order(works, other, one), False)
        empty = alone(part(None, 3, 0, (), "w"))
        self.assertIs(either_order(empty, ("set", 1, ((0, 5),)), ("wood", 1, 8)), True)
        self.assertIs(either_order(empty, ("set", 1, ((0, 5),)), ("wood", 1, 9)), False)

    def test_doors_between(self):
        works = alone(part(WARE, 3, 3, (), "wd"))
        self.assertEqual(doors_between(works, works), ())
        self.assertEqual(doors_between(works, alone(part(WARE, 3, 3, (), "s"))),
                         (("brick", 1), ("damper", 1, False), ("screen", 1, True)))
        self.assertEqual(doors_between(alone(part(WARE, 3, 3, (), "s")), works),
                         (("damper", 1, True), ("open", 1), ("screen", 1, False)))
        for other in (alone(part(WARE, 4, 3, (), "wd")), alone(part(WARE, 3, 4, (), "wd")), alone(part()),
                      alone(part(WARE, 3, 3, (1,), "wd")), alone(part(WARE, 3, 3, (), "wd"), (1,) + NOUGHTS[1:]),
                      (MAKE[:5] + (11,),) + works[1:]):
            self.assertEqual(answer(doors_between, works, other), raised("NoPaper"))


class Guarantees(unittest.TestCase):
    def test_a_deed_does_as_the_second_reading_has_it(self):
        found = {}
        for seed in range(1500):
            works = some_works(seed)
            deed = some_deed(Numbers(seed + 90000), works)
            state = oracle.opened(works)
            try:
                oracle.do(state, deed)
                expected = oracle.closed(state)
            except oracle.CannotBeDone:
                expected = raised("Unfit")
            self.assertEqual(answer(done, works, deed), expected)
            self.assertIs(can_do(works, deed), expected != raised("Unfit"))
            if can_do(works, deed):
                self.assertIs(is_works(expected), True)
                found[deed[0]] = found.get(deed[0], 0) + 1
        self.assertEqual(len(found), 9)

    def test_deeds_at_unlike_chambers_go_in_either_order(self):
        found = 0
        for seed in range(600):
            works = some_works(seed)
            numbers = Numbers(seed + 4000)
            one, other = some_deed(numbers, works), some_deed(numbers, works)
            if one[1] != other[1] and can_do(works, one) and can_do(works, other):
                found += 1
                self.assertIs(either_order(works, one, other), True)
                self.assertEqual(deeds_done(works, (one, other)), deeds_done(works, (other, one)))
        self.assertGreater(found, 60)

    def test_only_doors_can_be_taken_back(self):
        for seed in range(500):
            works = some_works(seed)
            deed = some_deed(Numbers(seed + 7000), works)
            if not can_do(works, deed):
                continue
            undo = undo_of(works, deed)
            self.assertIs(undo is not None, deed[0] in ("brick", "open", "damper", "screen"))
            if undo is not None:
                self.assertEqual(deeds_done(works, (deed, undo)), works)
                self.assertEqual(doors_between(works, done(works, deed)), (deed,))

    def test_no_deed_here_takes_another_back_but_doors(self):
        for seed in range(200):
            works = some_works(seed)
            for number in range(len(works[1])):
                for deed in deeds_here(works, number):
                    after = done(works, deed)
                    takes = [own for own in deeds_here(after, number) if done(after, own) == works]
                    undo = undo_of(works, deed)
                    self.assertEqual(takes, [] if undo is None else [undo])

    def test_deeds_here_are_all_of_them(self):
        for seed in range(200):
            works = some_works(seed)
            for number in range(len(works[1])):
                deeds = [(word, number) for word in ("draw", "clear", "brick", "open")]
                deeds += [(word, number, yes) for word in ("damper", "screen") for yes in (True, False)]
                self.assertEqual(deeds_here(works, number), sorted(deed for deed in deeds if can_do(works, deed)))

    def test_turned_it_does_the_same_turned(self):
        for seed in range(300):
            works = some_works(seed)
            many = len(works[1])
            deed = some_deed(Numbers(seed + 11), works)
            for by in (1, -2, many):
                turned = answer(done, turned_works(works, -by), deed_turned(deed, by, many))
                plain = answer(done, works, deed)
                self.assertEqual(turned, plain if plain[0] == "raises" else turned_works(plain, -by))

    def test_doors_between_make_the_one_the_other(self):
        for seed in range(200):
            works = some_works(seed)
            numbers = Numbers(seed + 5)
            other = (works[0], tuple(own[:4] + tuple(numbers.below(2) == 0 for _ in range(3)) for own in works[1]),
                     works[2])
            deeds = doors_between(works, other)
            self.assertEqual(list(deeds), sorted(set(deeds)))
            self.assertEqual(deeds_done(works, deeds), other)
            self.assertEqual(deeds_done(works, deeds[::-1]), other)


if __name__ == "__main__":
    unittest.main()
