"""keeping.py: [15]. What it tells is held against all that can be seen, gone through by tests/graphs.py."""

import itertools
import unittest

from ringkiln.chambers import is_works
from ringkiln.keeping import (are_choices, best_choice, best_row, can_keep, chosen_tick, death_list, dies_within,
                              is_death_list, is_kept_lot, kept_by, kept_lot, least_choices, seen_of)
from tests import oracle
from tests.graphs import (choice_graph, dying_in, kept_in, plain_is_death, plain_is_kept, small_choices, small_rules,
                          small_works, works_seen)
from tests.support import NOUGHTS, Numbers, answer, listed, raised, some_act, strictly

MAKE = (((20, 3, 90),), 0, 4, 4, 900, 4)
MANY = raised("TooMany")
NONE = raised("NoPaper")
ASKED = (can_keep, kept_lot, dies_within, death_list, best_choice, least_choices)


def part(heat=0, coal=(), doors="", load=None):
    return load, heat, 0, coal, "w" in doors, "d" in doors, "s" in doors


def works_of(*chambers, make=MAKE):
    return make, chambers, NOUGHTS


OVEN = works_of(part(8, (), "wds"), part(0, (), "s"), part(0, (), "s"))
COLD = works_of(part(3, (), "wds"), part(0, (), "s"), part(0, (), "s"))
FED, SHUT_UP = ((0, ("coal", (6,))),), ((0, ("brick",)),)
QUIET = MAKE[:5] + (0,)


def counting(stay):
    """A quiet FIRE of which stay + 1 unlike things are seen."""
    make = (((8, stay, 90),),) + QUIET[1:]
    return make, (part(8, load=((0, 1, 0),)), part(), part()), NOUGHTS


def cases(seeds):
    for seed in seeds:
        works = small_works(seed)
        rules, choices = small_rules(seed, works[0]), small_choices(seed, works[0])
        graph = choice_graph(works, rules, choices)
        if graph is not None:
            yield works, rules, choices, graph


class Shapes(unittest.TestCase):
    def test_choices(self):
        for thing in (((),), ((), ()), (((0, ("draw",)),),), ((), ((-3, ("coal", ())), (9, ("wood", 0)))),
                      (((1, ("set", ((7, 5),))),), ((0, ("screen", False)),))):
            self.assertIs(are_choices(thing), True, thing)
        for thing in ((), None, 0, True, "", [()], ([],), (None,), ((0, ("draw",)),), ((((0, ("draw",)),),),),
                      (((0,),),), (((True, ("draw",)),),), ((("0", ("draw",)),),), (((0, ["draw"]),),),
                      (((0, ("draw", 1)),),), (([0, ("draw",)],),), ([(0, ("draw",))],), (((0, ("loud",)),),),
                      (((0, ("draw",), ()),),), ((), ((0, ("set", ())),)), (((0, ("damper", 1)),),), ((), 3)):
            self.assertIs(are_choices(thing), False, thing)

    def test_seen_of(self):
        works = (MAKE, ((((0, 5, 9), (0, 1, 2)), 8, 30, (2,), True, False, True), part(3), part()), (9,) * 7)
        self.assertEqual(seen_of(works), ((((0, 5, 3), (0, 1, 2)), 8, (2,), True, False, True),
                                          (None, 3, (), False, False, False), (None, 0, (), False, False, False)))
        for works, _, _, _ in cases(range(100)):
            self.assertTrue(strictly(seen_of(works), oracle.seen(works)))


class OneTick(unittest.TestCase):
    def test_chosen(self):
        for works, rules, choices, _ in cases(range(300)):
            for number, choice in enumerate(choices):
                self.assertTrue(strictly(chosen_tick(works, rules, choices, number),
                                         oracle.chosen(works, rules, choice)))

    def test_acts_ahead_of_all_rules(self):
        # The choice opens what the RULE would have opened, and the RULE bricks up what it opened.
        rules = ((1, (("wicket", True),), ("damper", True)), (1, (("wicket", True),), ("brick",)))
        behind = chosen_tick(OVEN, rules, ((), ((1, ("open",)),)), 1)
        self.assertEqual(behind[1][1][4:6], (False, True))
        self.assertEqual(chosen_tick(OVEN, rules, ((), ((1, ("open",)),)), 0)[1][1][4:6], (False, False))

    def test_act_by_act_for_all_fronts_of_before(self):
        works = works_of(part(8), part(), part(8), part(), make=QUIET)
        choices = (((1, ("wood", 9)), (1, ("open",)), (-1, ("brick",)), (2, ("clear",))),)
        behind = chosen_tick(works, (), choices, 0)
        self.assertEqual([chamber[1] for chamber in behind[1]], [8, 9, 8, 9])
        self.assertEqual([chamber[4] for chamber in behind[1]], [False] * 4)

    def test_no_choice(self):
        for number in (-1, 2, 99):
            self.assertEqual(answer(chosen_tick, OVEN, (), ((), FED), number), raised("NoChoice", number))

    def test_many_choices_of_many_acts(self):
        for seed in range(100):
            works = small_works(seed)
            numbers = Numbers(seed)
            choices = tuple(numbers.many(3, lambda: (numbers.below(25) - 12, some_act(numbers, works[0])))
                            for _ in range(4))
            for number in range(4):
                self.assertEqual(chosen_tick(works, small_rules(seed, works[0]), choices, number),
                                 oracle.chosen(works, small_rules(seed, works[0]), choices[number]))


class All(unittest.TestCase):
    def test_against_all_that_can_be_seen(self):
        kept_some = died = 0
        for works, rules, choices, graph in cases(range(600)):
            first = next(iter(graph))
            kept, ticks = kept_in(graph), dying_in(graph)
            self.assertIs(can_keep(works, rules, choices), first in kept)
            self.assertEqual(dies_within(works, rules, choices), ticks.get(first))
            if first in kept:
                kept_some += 1
                lot = tuple((seen, next(number for number, behind in enumerate(graph[seen]) if behind in kept))
                            for seen in graph if seen in kept)
                self.assertTrue(strictly(kept_lot(works, rules, choices), lot))
                self.assertIs(is_kept_lot(works, rules, choices, lot), True)
                self.assertEqual(answer(death_list, works, rules, choices), NONE)
                best = lot[0][1]
            else:
                died += 1
                row = tuple((seen, ticks[seen]) for seen in graph if graph[seen] and seen in ticks)
                self.assertTrue(strictly(death_list(works, rules, choices), row))
                self.assertIs(is_death_list(works, rules, choices, row), True)
                self.assertEqual(answer(kept_lot, works, rules, choices), NONE)
                self.assertEqual(answer(least_choices, works, rules, choices), NONE)
                left = [ticks[behind] for behind in graph[first]]
                best = left.index(max(left)) if left else None
            self.assertEqual(best_choice(works, rules, choices), best)
        self.assertGreater(kept_some, 150)
        self.assertGreater(died, 150)

    def test_best_rows(self):
        long = 0
        for works, rules, choices, graph in cases(range(300)):
            row = []
            now = works
            while len(row) < 7 and not oracle.is_out(now):
                row.append(best_choice(now, rules, choices))
                now = oracle.chosen(now, rules, choices[row[-1]])
            for many in (0, 1, 7):
                self.assertEqual(best_row(works, rules, choices, many), tuple(row[:many]))
            long += len(row) > 2 and any(row)
            if next(iter(graph)) not in kept_in(graph):
                # The best ones go out behind the very tick that dies_within tells.
                self.assertEqual(len(best_row(works, rules, choices, 60)), min(60, dies_within(works, rules, choices)))
        self.assertGreater(long, 20)

    def test_least_choices(self):
        told = set()
        for works, rules, choices, graph in cases(range(600)):
            choices = choices + choices[1:2]
            first = next(iter(graph))
            if first in kept_in(graph):
                sets = [numbers for size in range(1, len(choices) + 1)
                        for numbers in itertools.combinations(range(len(choices)), size)]
                for numbers in sets:
                    less = choice_graph(works, rules, tuple(choices[number] for number in numbers))
                    if first in kept_in(less):
                        break
                self.assertEqual(least_choices(works, rules, choices), numbers)
                told.add(numbers)
        self.assertGreaterEqual(told, {(0,), (1,), (2,)})

    def test_two_choices_wanted(self):
        # Wood is put in where damper and wicket are open; the wicket is bricked up then, and opened anew.
        both = (("damper", True), ("wicket", True))
        rules = ((0, both, ("wood", 6)), (0, both, ("brick",)))
        works = works_of(part(8, (), "s"), part(0, (), "s"), part(0, (), "s"))
        choices = ((), ((0, ("damper", True)),), ((0, ("open",)),))
        graph = choice_graph(works, rules, choices)
        self.assertIn(next(iter(graph)), kept_in(graph))
        self.assertEqual(least_choices(works, rules, choices), (1, 2))
        self.assertEqual(answer(least_choices, works, rules, choices[:2]), NONE)
        self.assertEqual(best_row(works, rules, choices, 4), (0, 0, 1, 2))

    def test_one_choice_that_does_nothing(self):
        self.assertEqual(dies_within(OVEN, (), ((),)), 1)
        self.assertEqual(best_row(OVEN, (), ((),), 60), (0,))
        quiet = works_of(part(8), part(), part(), make=QUIET)
        self.assertEqual(kept_lot(quiet, (), ((),)), ((seen_of(quiet), 0),))
        self.assertEqual((least_choices(quiet, (), ((), SHUT_UP)), best_choice(quiet, (), ((), SHUT_UP))), ((0,), 0))

    def test_out(self):
        for choices in (((),), ((), FED, SHUT_UP)):
            self.assertIs(can_keep(COLD, (), choices), False)
            self.assertEqual(dies_within(COLD, (), choices), 0)
            self.assertEqual(death_list(COLD, (), choices), ())
            self.assertIsNone(best_choice(COLD, (), choices))
            self.assertEqual(best_row(COLD, (), choices, 60), ())
            self.assertEqual(answer(kept_lot, COLD, (), choices), NONE)
            self.assertEqual(answer(least_choices, COLD, (), choices), NONE)
            self.assertIs(is_death_list(COLD, (), choices, ()), True)
            for thing in (((seen_of(COLD), 1),), ((seen_of(OVEN), 9),), [], None, ((seen_of(COLD), 0),)):
                self.assertIs(is_death_list(COLD, (), choices, thing), False)
            self.assertIs(is_kept_lot(COLD, (), choices, ()), False)
            self.assertIs(is_kept_lot(COLD, (), choices, ((seen_of(COLD), 0),)), False)

    def test_a_fire_of_all(self):
        works = works_of(part(8), part(8), part(8), make=QUIET)
        self.assertEqual(kept_lot(works, (), (FED, ())), ((seen_of(works), 0),))


def spoilt(numbers, thing, graph, most):
    """The pairs with one left out, put in, doubled, changed, or put elsewhere."""
    rows = list(thing)
    place = numbers.below(len(rows)) if rows else 0
    way = numbers.below(6)
    if way == 0 and rows:
        del rows[place]
    elif way == 1:
        rows.insert(place, (numbers.one_of(list(graph)), numbers.below(most + 1)))
    elif way == 2 and rows:
        rows.append(rows[place])
    elif way == 3 and rows:
        rows[place] = (rows[place][0], numbers.below(most + 2))
    elif way == 4 and rows:
        rows[place] = (rows[place][0], rows[place][1] + 1)
    else:
        rows.reverse()
    return tuple(rows)


class Judges(unittest.TestCase):
    def test_spoilt_lots(self):
        answers = {True: 0, False: 0}
        for seed, (works, rules, choices, graph) in enumerate(cases(range(500))):
            if can_keep(works, rules, choices):
                thing = kept_lot(works, rules, choices)
                numbers = Numbers(seed)
                for _ in range(6):
                    thing = spoilt(numbers, thing, graph, len(choices))
                    expected = plain_is_kept(works, rules, choices, thing)
                    self.assertIs(is_kept_lot(works, rules, choices, thing), expected)
                    answers[expected] += 1
        self.assertGreater(min(answers.values()), 50)

    def test_spoilt_lists(self):
        answers = {True: 0, False: 0}
        for seed, (works, rules, choices, graph) in enumerate(cases(range(500))):
            if not can_keep(works, rules, choices):
                thing = death_list(works, rules, choices)
                numbers = Numbers(seed)
                for _ in range(6):
                    thing = spoilt(numbers, thing, graph, 5)
                    expected = plain_is_death(works, rules, choices, thing)
                    self.assertIs(is_death_list(works, rules, choices, thing), expected)
                    answers[expected] += 1
        self.assertGreater(min(answers.values()), 50)

    def test_things_that_are_none(self):
        seen = seen_of(OVEN)
        pairs = [(seen, 1)]
        good = (tuple(pairs),)
        self.assertIs(is_kept_lot(OVEN, (), ((), FED), good[0]), True)
        self.assertIs(is_death_list(OVEN, (), ((),), good[0]), True)
        others = [None, True, 0, "", (), [], pairs, listed(pairs), (seen, 1), ((seen,),), ((seen, 1, 0),), ([seen, 1],),
                  ((seen, True),), ((seen, None),), ((seen, -1),), ((seen, "1"),), ((list(seen), 1),),
                  ((seen[:2], 1),), ((seen + seen[:1], 1),), ((None, 1),), good[0] + good[0], good[0] + (None,),
                  (((seen[0][:5],) + seen[1:], 1),), (((seen[0] + (0,),) + seen[1:], 1),)]
        changed = [(None, 8, (), 1, True, True), (None, True, (), True, True, True), (None, -8, (), True, True, True),
                   (None, 8, [], True, True, True), (None, 8, (0,), True, True, True), (None, 8, (5, 3), True, True, True),
                   (0, 8, (), True, True, True), (True, 8, (), True, True, True), ((), 8, (), True, True, True),
                   (((1, 5, 0),), 8, (), True, True, True), (((0, 0, 0),), 8, (), True, True, True),
                   (((0, 5, 4),), 8, (), True, True, True), (((0, 5),), 8, (), True, True, True),
                   ("set", 8, (), True, True, True), [None, 8, (), True, True, True]]
        others += [good[0] + (((chamber,) + seen[1:], 1),) for chamber in changed]
        for thing in others:
            self.assertIs(is_kept_lot(OVEN, (), ((), FED), thing), False, thing)
            self.assertIs(is_death_list(OVEN, (), ((),), thing), False, thing)
        self.assertIs(is_kept_lot(OVEN, (), ((), FED), ((seen, 2),)), False)
        self.assertIs(is_death_list(OVEN, (), ((),), ((seen, 0),)), False)
        self.assertIs(is_death_list(OVEN, (), ((),), ((seen, 7),)), True)

    def test_more_than_can_be_seen_may_be_there(self):
        seen = seen_of(OVEN)
        other = ((None, 9, (), True, True, True),) + seen[1:]
        # 9 with coal of 6 is 4 and 6 and less 2, which is 8 of the oven.
        behind = seen_of(chosen_tick((MAKE, works_seen(MAKE, other)[1], NOUGHTS), (), ((), FED), 1))
        self.assertEqual(behind[0][1], 9)
        self.assertIs(is_kept_lot(OVEN, (), ((), FED), ((other, 1), (seen, 1))), True)
        standing = ((((0, 5, 3),), 9, (), True, True, True),) + seen[1:]
        self.assertIs(is_kept_lot(OVEN, (), ((), FED), ((seen, 1), (standing, 1))), True)
        dead = ((None, 3, (), True, True, True),) + seen[1:]
        self.assertIs(is_kept_lot(OVEN, (), ((), FED), ((seen, 1), (dead, 1))), False)


class KeptBy(unittest.TestCase):
    def test_against_the_run(self):
        for works, rules, choices, _ in cases(range(400)):
            if can_keep(works, rules, choices):
                lot = kept_lot(works, rules, choices)
                now = works
                for many in range(6):
                    own = kept_by(works, rules, choices, lot, many)
                    self.assertTrue(strictly(own, now))
                    self.assertIs(is_works(own), True)
                    self.assertEqual(kept_by(works, rules, choices, listed(lot), many), now)
                    now = oracle.chosen(now, rules, choices[dict(lot)[oracle.seen(now)]])

    def test_unfit(self):
        seen = seen_of(OVEN)
        for lot in ((), ((seen, 0),), ((seen, 2),), ((seen, 1),) * 2, ((seen, True),), ((seen[:2], 1),), None, 3):
            for many in (0, 5):
                self.assertEqual(answer(kept_by, OVEN, (), ((), FED), lot, many), raised("Unfit"))
        self.assertEqual(kept_by(OVEN, (), ((), FED), ((seen, 1),), 60)[2], (60, 240, 120, 360, 0, 0, 0))


class TooManySeen(unittest.TestCase):
    def test_just_so(self):
        works = counting(3999)
        self.assertEqual(len(kept_lot(works, (), ((),))), 4000)
        self.assertIs(can_keep(works, (), ((), ())), True)
        self.assertEqual(best_row(works, (), ((),), 3), (0, 0, 0))
        over = counting(4000)
        for function in ASKED:
            self.assertEqual(answer(function, over, (), ((),)), MANY)
        for many in (0, 3):
            self.assertEqual(answer(best_row, over, (), ((),), many), MANY)
        # The judges, kept_by, chosen_tick and seen_of know no such bound.
        lot = tuple((seen_of((over[0], (part(8, load=((0, 1, stood),)),) + over[1][1:], NOUGHTS)), 0)
                    for stood in range(4001))
        self.assertIs(is_kept_lot(over, (), ((),), lot), True)
        self.assertIs(is_kept_lot(over, (), ((),), lot[:-1]), False)
        self.assertIs(is_death_list(over, (), ((),), lot), False)
        self.assertEqual(kept_by(over, (), ((),), lot, 5)[1][0][0], ((0, 1, 5),))
        self.assertEqual(chosen_tick(over, (), ((),), 0)[1][0][0], ((0, 1, 1),))

    def test_those_that_are_out_do_not_count(self):
        # 3,999 with a FIRE by 0, and for each of them one that is out by 1.
        works = counting(3998)
        choices = ((), ((0, ("open",)), (0, ("damper", True))))
        make = (((8, 3998, 90),), 0, 8, 4, 900, 0)
        works = (make, works[1], NOUGHTS)
        self.assertEqual(len(kept_lot(works, (), choices)), 3999)

    def test_piles_without_end_ahead_of_no_paper(self):
        works = works_of(part(8), part(), part(), make=QUIET)
        for choices in (((), ((0, ("wood", 1)),)), ((), FED), (((0, ("wood", 1)),), ((0, ("open",)),))):
            for function in ASKED:
                self.assertEqual(answer(function, works, (), choices), MANY)
            self.assertEqual(answer(best_row, works, (), choices, 0), MANY)


class Guarantees(unittest.TestCase):
    def test_a_lot_or_a_list(self):
        for works, rules, choices, _ in cases(range(300)):
            none = [answer(kept_lot, works, rules, choices) == NONE, answer(death_list, works, rules, choices) == NONE]
            self.assertEqual(sorted(none), [False, True])
            if none[0]:
                # Out within so many ticks, whatever is taken.
                ticks = dies_within(works, rules, choices)
                rows = [works]
                for _ in range(min(ticks, 5)):
                    rows = [oracle.chosen(row, rules, choice) for row in rows for choice in choices]
                self.assertTrue(ticks > 5 or all(oracle.is_out(row) for row in rows))
            else:
                lot = kept_lot(works, rules, choices)
                self.assertFalse(oracle.is_out(kept_by(works, rules, choices, lot, 60)))


if __name__ == "__main__":
    unittest.main()
