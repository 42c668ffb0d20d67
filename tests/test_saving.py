"""saving.py: [14]. What it tells is held against all takes, gone through by tests/graphs.py."""

import itertools
import unittest

from ringkiln.saving import (behind_takes, first_mistake, is_keeping, is_rescue, is_save_paper, keeping, last_rescue,
                             last_save, rescue, safe_choices, save_paper, saves_at, saving_rows)
from ringkiln.keeping import can_keep, death_list, kept_lot
from tests import oracle
from tests.graphs import (choice_graph, kept_in, plain_is_death, plain_is_kept, reaching, small_choices, small_rules,
                          small_works)
from tests.support import NOUGHTS, Numbers, answer, listed, raised, strictly

MAKE = (((20, 3, 90),), 0, 4, 4, 900, 4)
QUIET = MAKE[:5] + (0,)
MANY = raised("TooMany")
NONE = raised("NoPaper")
ASKED = (last_save, safe_choices, saving_rows, save_paper, keeping, rescue, last_rescue)


def part(heat=0, coal=(), doors="", load=None):
    return load, heat, 0, coal, "w" in doors, "d" in doors, "s" in doors


def works_of(*chambers, make=MAKE):
    return make, chambers, NOUGHTS


# 8 becomes 6, 5, 4, 3 by the earth; wood of 3 more is burnt once.
OVEN = works_of(part(8), part(), part())
COLD = works_of(part(3), part(), part())
ALONE = works_of(part(8), part(), part(), make=QUIET)
WOOD = ((0, ("wood", 3)),)
ENDLESS = ((), ((0, ("wood", 1)),))


def counting(stay):
    """A quiet FIRE of which stay + 1 unlike things are seen."""
    make = (((8, stay, 90),),) + QUIET[1:]
    return make, (part(8, load=((0, 1, 0),)), part(), part()), NOUGHTS


def cases(seeds):
    for seed in seeds:
        works = small_works(seed)
        rules, choices = small_rules(seed, works[0]), small_choices(seed, works[0])
        graph = choice_graph(works, rules, choices)
        if graph is not None:
            yield works, rules, choices, graph


def lots(graph):
    """The lots of those that can be kept, that go alone, that have a RESCUE."""
    alone = kept_in({seen: row[:1] for seen, row in graph.items()})
    return kept_in(graph), alone, reaching(graph, alone)


def alone_rows(works, rules, many):
    """What is seen behind 0, 1, .. many ticks by 0, 0, .."""
    return [oracle.seen(row) for row in oracle.rows_by(works, rules, many)]


def plain_last(works, rules, graph, lot):
    """The last tick of the run by 0, 0, .. ahead of which it stands in lot, among more ticks than all can be."""
    return max([0] + [before + 1 for before, seen in enumerate(alone_rows(works, rules, len(graph))) if seen in lot])


class Takes(unittest.TestCase):
    def test_behind(self):
        for seed, (works, rules, choices, _) in enumerate(cases(range(200))):
            takes = Numbers(seed).many(6, lambda: seed % 7 % len(choices))
            now = works
            for number in takes:
                now = oracle.chosen(now, rules, choices[number])
            self.assertTrue(strictly(behind_takes(works, rules, choices, takes), now))
            self.assertEqual(behind_takes(works, rules, choices, ()), works)

    def test_the_first_number_that_is_none(self):
        for takes, number in (((2,), 2), ((0, 1, -1, 5), -1), ((1, 9, 8), 9), ((0,) * 30 + (4,), 4)):
            for function in (behind_takes, first_mistake):
                self.assertEqual(answer(function, OVEN, (), ((), WOOD), takes), raised("NoChoice", number))
                self.assertEqual(answer(function, ALONE, (), ENDLESS, takes), raised("NoChoice", number))
        self.assertEqual(behind_takes(ALONE, (), ENDLESS, (1, 1, 0))[1][0][1], 10)


class Saves(unittest.TestCase):
    def test_against_all_takes(self):
        told = {"alone": 0, "saved": 0, "lost": 0}
        for works, rules, choices, graph in cases(range(900)):
            first = next(iter(graph))
            kept, alone, saved = lots(graph)
            rows = alone_rows(works, rules, len(graph) + 1)
            for tick in (1, 2, 3, 5, 9, 40):
                self.assertIs(saves_at(works, rules, choices, tick),
                              oracle.seen(oracle.rows_by(works, rules, tick - 1)[-1]) in kept)
            safe = {seen: tuple(number for number, behind in enumerate(row) if behind in kept)
                    for seen, row in graph.items()}
            self.assertEqual(safe_choices(works, rules, choices), safe[first])
            if first in alone:
                told["alone"] += 1
                self.assertEqual((last_save(works, rules, choices), last_rescue(works, rules, choices)), (None, None))
                self.assertEqual(saving_rows(works, rules, choices), ())
                self.assertEqual(answer(save_paper, works, rules, choices), NONE)
            else:
                last = plain_last(works, rules, graph, kept)
                told["saved" if last else "lost"] += 1
                self.assertEqual(last_save(works, rules, choices), last)
                self.assertEqual(last_rescue(works, rules, choices), plain_last(works, rules, graph, saved))
                burning = [seen for seen in rows if seen in graph and graph[seen]]
                self.assertEqual(saving_rows(works, rules, choices), tuple(safe[seen] for seen in burning))
        self.assertGreater(told["alone"], 150)
        self.assertGreater(told["saved"], 15)
        self.assertGreater(told["lost"], 150)

    def test_up_to_it_each_tick_saves_behind_it_none_does(self):
        for works, rules, choices, _ in cases(range(300)):
            last = last_save(works, rules, choices)
            if last is None:
                self.assertTrue(all(saves_at(works, rules, choices, tick) for tick in (1, 2, 10, 10 ** 9)))
            else:
                self.assertEqual([saves_at(works, rules, choices, tick) for tick in range(1, last + 4)],
                                 [True] * last + [False] * 3)
                self.assertIs(saves_at(works, rules, choices, 10 ** 9), False)

    def test_no_tick(self):
        for tick in (0, -1, -9):
            self.assertEqual(answer(saves_at, OVEN, (), ((), WOOD), tick), raised("NoTick", tick))
            self.assertEqual(answer(saves_at, ALONE, (), ENDLESS, tick), raised("NoTick", tick))

    def test_out_at_first(self):
        for choices in (((),), ((), WOOD)):
            self.assertEqual((last_save(COLD, (), choices), last_rescue(COLD, (), choices)), (0, 0))
            self.assertEqual((safe_choices(COLD, (), choices), saving_rows(COLD, (), choices)), ((), ()))
            self.assertIs(saves_at(COLD, (), choices, 1), False)
            self.assertIsNone(first_mistake(COLD, (), choices, (0, 0)))
            self.assertEqual(save_paper(COLD, (), choices), ((), ()))
            self.assertIs(is_save_paper(COLD, (), choices, 0, ((), ())), True)
            self.assertIs(is_save_paper(COLD, (), choices, 1, ((), ())), False)
            self.assertEqual(answer(keeping, COLD, (), choices), NONE)
            self.assertEqual(answer(rescue, COLD, (), choices), NONE)
            self.assertIs(is_keeping(COLD, (), choices, ((), (0,))), False)
            self.assertIs(is_rescue(COLD, (), choices, ()), False)

    def test_one_choice_that_goes_out(self):
        self.assertEqual((last_save(OVEN, (), ((),)), saving_rows(OVEN, (), ((),))), (0, ((),) * 4))
        self.assertEqual(save_paper(OVEN, (), ((),)), ((), death_list(OVEN, (), ((),))))
        self.assertEqual((last_save(OVEN, (), ((), WOOD)), saving_rows(OVEN, (), ((), WOOD))),
                         (4, ((0, 1),) * 3 + ((1,),)))

    def test_first_mistake(self):
        mistakes = 0
        for works, rules, choices, graph in cases(range(500)):
            kept = kept_in(graph)
            for takes in list(itertools.product(range(len(choices)), repeat=4))[::5]:
                seen = oracle.seen(works)
                expected = None
                for before, number in enumerate(takes):
                    safe = [own for own, behind in enumerate(graph[seen]) if behind in kept]
                    if safe and number not in safe:
                        expected = before + 1
                        break
                    if not graph[seen]:
                        break
                    seen = graph[seen][number]
                self.assertEqual(first_mistake(works, rules, choices, takes), expected)
                mistakes += expected is not None
            self.assertIsNone(first_mistake(works, rules, choices, ()))
        self.assertGreater(mistakes, 50)
        self.assertEqual(first_mistake(OVEN, (), ((), WOOD), (0, 0, 0, 0)), 4)
        self.assertIsNone(first_mistake(OVEN, (), ((), WOOD), (0, 0, 0, 1, 0)))
        self.assertEqual(first_mistake(OVEN, (), ((), WOOD), (0, 0, 0, 1, 0, 0, 0, 1)), 7)


def plain_is_save(works, rules, choices, tick, thing):
    """Whether a pair (tuple of pairs, tuple of pairs) is a SAVE PAPER."""
    rows = oracle.rows_by(works, rules, tick)
    if not plain_is_death(rows[tick], rules, choices, thing[1]):
        return False
    return thing[0] == () if tick == 0 else plain_is_kept(rows[tick - 1], rules, choices, thing[0])


class SavePapers(unittest.TestCase):
    def test_what_is_told_is_one_for_its_tick_alone(self):
        papers = 0
        for works, rules, choices, _ in cases(range(500)):
            last = last_save(works, rules, choices)
            if last is None:
                continue
            thing = save_paper(works, rules, choices)
            papers += last > 0
            self.assertIs(plain_is_save(works, rules, choices, last, thing), True)
            for tick in range(last + 4):
                self.assertIs(is_save_paper(works, rules, choices, tick, thing), tick == last)
                self.assertEqual(plain_is_save(works, rules, choices, tick, thing), tick == last)
            self.assertIs(is_save_paper(works, rules, choices, 10 ** 9, thing), False)
            if last > 0:
                self.assertIs(is_save_paper(works, rules, choices, last, ((), thing[1])), False)
            for other in (thing[:1], thing + ((),), list(thing), listed(thing), (list(thing[0]), thing[1]), None, 0, (),
                          (thing[0], list(thing[1])), (thing[1], None), (None, thing[1])):
                self.assertIs(is_save_paper(works, rules, choices, last, other), False)
        self.assertGreater(papers, 10)

    def test_other_ones(self):
        # Both parts may have more than they want; a list of an earlier tick holds what comes of it.
        choices = ((), WOOD)
        lot = kept_lot(OVEN, (), choices)
        behind = behind_takes(OVEN, (), choices, (0,) * 4)
        self.assertEqual(death_list(behind, (), choices), ())
        self.assertIs(is_save_paper(OVEN, (), choices, 4, (lot, ())), True)
        self.assertIs(is_save_paper(OVEN, (), choices, 3, (lot, ())), False)
        self.assertIs(is_save_paper(OVEN, (), choices, 5, (lot, ())), False)

    def test_nothing_kept_at_tick_0(self):
        dead = death_list(OVEN, (), ((),))
        self.assertIs(is_save_paper(OVEN, (), ((),), 0, ((), dead)), True)
        for kept in (kept_lot(ALONE, (), ((),)), [], None, 0, False, ((),)):
            self.assertIs(is_save_paper(OVEN, (), ((),), 0, (kept, dead)), False)

    def test_none_of_those_that_go_alone(self):
        for tick in (0, 1, 5, 10 ** 9):
            for thing in (((), ()), (kept_lot(ALONE, (), ((),)), ())):
                self.assertIs(is_save_paper(ALONE, (), ((),), tick, thing), False)

    def test_no_tick(self):
        for works, choices in ((OVEN, ((), WOOD)), (ALONE, ENDLESS)):
            for tick in (-1, -9):
                for thing in (None, ((), ())):
                    self.assertEqual(answer(is_save_paper, works, (), choices, tick, thing), raised("NoTick", tick))


def plain_is_keeping(works, rules, choices, lead, loop):
    now = works
    rows = [now]
    for number in lead + loop:
        now = oracle.chosen(now, rules, choices[number])
        rows.append(now)
    return loop != () and not any(map(oracle.is_out, rows)) and oracle.seen(rows[len(lead)]) == oracle.seen(rows[-1])


class Keepings(unittest.TestCase):
    def test_what_is_told_is_one(self):
        kept = long = 0
        for works, rules, choices, graph in cases(range(500)):
            thing = answer(keeping, works, rules, choices)
            if next(iter(graph)) not in kept_in(graph):
                self.assertEqual(thing, NONE)
                continue
            kept += 1
            long += len(thing[1]) > 1
            self.assertIs(type(thing), tuple)
            self.assertIs(plain_is_keeping(works, rules, choices, *thing), True)
            self.assertIs(is_keeping(works, rules, choices, thing), True)
            lead, loop = thing
            self.assertIs(is_keeping(works, rules, choices, (lead + loop, loop)), True)
            self.assertIs(is_keeping(works, rules, choices, (lead, loop * 3)), True)
        self.assertGreater(kept, 140)
        self.assertGreater(long, 4)

    def test_all_short_ones(self):
        answers = {True: 0, False: 0}
        for works, rules, choices, _ in cases(range(150)):
            for lead_many, loop_many in ((0, 0), (0, 1), (1, 1), (0, 2), (2, 1), (3, 1), (1, 3), (5, 1)):
                for takes in list(itertools.product(range(len(choices)), repeat=lead_many + loop_many))[:9]:
                    lead, loop = takes[:lead_many], takes[lead_many:]
                    expected = plain_is_keeping(works, rules, choices, lead, loop)
                    self.assertIs(is_keeping(works, rules, choices, (lead, loop)), expected)
                    answers[expected] += 1
        self.assertGreater(min(answers.values()), 100)

    def test_things_that_are_none(self):
        self.assertIs(is_keeping(ALONE, (), ((), ()), ((), (0,))), True)
        self.assertIs(is_keeping(ALONE, (), ((), ()), ((1, 0), (1, 1))), True)
        for thing in (None, 0, True, "", (), ((), ()), ((), (2,)), ((2,), (0,)), ((-1,), (0,)), ((), (-1,)), ((), (True,)),
                      ((False,), (0,)), ((), [0]), ([], (0,)), [(), (0,)], ((), (0,), ()), ((),), ((0,), None),
                      (0, (0,)), ((), 0), ((), ("0",)), ((), (None,))):
            self.assertIs(is_keeping(ALONE, (), ((), ()), thing), False, thing)
        # It piles up, so nothing comes again; that is no matter of too many.
        self.assertIs(is_keeping(ALONE, (), ENDLESS, ((), (1,))), False)
        self.assertIs(is_keeping(ALONE, (), ENDLESS, ((1, 1), (0,))), True)


class Rescues(unittest.TestCase):
    def test_of_the_fewest_the_least(self):
        sizes = set()
        for works, rules, choices, graph in cases(range(900)):
            first = next(iter(graph))
            _, alone, saved = lots(graph)
            own = answer(rescue, works, rules, choices)
            if first not in saved:
                self.assertEqual(own, NONE)
                continue
            self.assertIs(is_rescue(works, rules, choices, own), True)
            sizes.add(len(own))
            for size in range(min(len(own), 5) + 1):
                for takes in itertools.product(range(len(choices)), repeat=size):
                    seen = first
                    for number in takes:
                        seen = graph[seen][number] if graph[seen] else seen
                    self.assertIs(is_rescue(works, rules, choices, takes), seen in alone)
                    if size < len(own) or takes < own:
                        self.assertNotIn(seen, alone)
        self.assertGreaterEqual(sizes, {0, 1})

    def test_by_hand(self):
        # Put out of the air it stays as it is; bricked up at 9 or later it is out.
        works = works_of(part(40, (), "wd"), part(), part(), make=QUIET[:2] + (10,) + QUIET[3:])
        brick = ((0, ("brick",)),)
        self.assertEqual(rescue(works, (), ((), brick)), (1,))
        self.assertEqual(last_rescue(works, (), ((), brick)), 3)
        self.assertEqual(last_save(works, (), ((), brick)), 3)
        self.assertEqual([is_rescue(works, (), ((), brick), (0,) * zeros + (1,)) for zeros in range(4)],
                         [True, True, True, False])
        self.assertEqual(rescue(works, (), ((), ((0, ("coal", (2,))), (0, ("open",))), brick)), (2,))
        self.assertEqual(rescue(ALONE, (), ((),)), ())
        # Kept by wood again and again, but never alone.
        self.assertEqual(answer(rescue, OVEN, (), ((), WOOD)), NONE)
        self.assertEqual((last_rescue(OVEN, (), ((), WOOD)), last_save(OVEN, (), ((), WOOD))), (0, 4))

    def test_two_steps(self):
        # Wood is put in for ever once the screen is whole and the wicket is bricked up.
        works = works_of(part(40, (), "wd"), part(), part())
        rules = ((0, (("screen", True), ("wicket", False)), ("wood", 3)),)
        choices = ((), ((0, ("screen", True)),), ((0, ("brick",)),))
        self.assertEqual(rescue(works, rules, choices), (1, 2))
        self.assertIs(is_rescue(works, rules, choices, (2, 1)), True)
        self.assertIs(is_rescue(works, rules, choices, (2,)), False)

    def test_things_that_are_none(self):
        self.assertIs(is_rescue(ALONE, (), ((), ()), ()), True)
        self.assertIs(is_rescue(ALONE, (), ((), ()), (1, 0)), True)
        for thing in (None, 0, True, "", [], [0], (2,), (-1,), (True,), (False,), (None,), ("0",), ((0,),), ((),)):
            self.assertIs(is_rescue(ALONE, (), ((), ()), thing), False, thing)

    def test_too_many_by_0_alone(self):
        # What other choices lead to does not count.
        self.assertIs(is_rescue(ALONE, (), ENDLESS, ()), True)
        self.assertIs(is_rescue(ALONE, (), ENDLESS, (1, 1, 0)), True)
        piling = ((0, (("from", 9),), ("wood", 1)),)
        self.assertIs(is_rescue(ALONE, piling, ((), ((0, ("wood", 1)),)), (0,)), True)
        self.assertEqual(answer(is_rescue, ALONE, piling, ((), ((0, ("wood", 1)),)), (1,)), MANY)
        self.assertIs(is_rescue(ALONE, piling, ((), ((0, ("wood", 1)),)), (2,)), False)
        self.assertIs(is_rescue(counting(3999), (), ((),), ()), True)
        self.assertEqual(answer(is_rescue, counting(4000), (), ((),), ()), MANY)
        self.assertIs(is_rescue(counting(4000), (), ((),), (0,)), True)


class TooManySeen(unittest.TestCase):
    def test_just_so(self):
        works = counting(3999)
        self.assertEqual((last_save(works, (), ((),)), last_rescue(works, (), ((),))), (None, None))
        self.assertEqual((saves_at(works, (), ((),), 5000), rescue(works, (), ((),))), (True, ()))
        self.assertEqual(keeping(works, (), ((),)), ((0,) * 3999, (0,)))
        self.assertEqual(first_mistake(works, (), ((),), (0, 0)), None)
        over = counting(4000)
        for function in ASKED:
            self.assertEqual(answer(function, over, (), ((),)), MANY)
        self.assertEqual(answer(saves_at, over, (), ((),), 1), MANY)
        self.assertEqual(answer(first_mistake, over, (), ((),), ()), MANY)
        self.assertIs(is_keeping(over, (), ((),), ((0,) * 4000, (0,))), True)
        self.assertIs(is_keeping(over, (), ((),), ((0,) * 3999, (0,))), False)
        self.assertIs(is_save_paper(over, (), ((),), 2, ((), ())), False)

    def test_ahead_of_no_paper(self):
        for function in ASKED:
            self.assertEqual(answer(function, ALONE, (), ENDLESS), MANY)
        self.assertEqual(answer(saves_at, ALONE, (), ENDLESS, 1), MANY)
        self.assertEqual(answer(first_mistake, ALONE, (), ENDLESS, (0,)), MANY)


class Guarantees(unittest.TestCase):
    def test_kept_exactly_with_a_keeping(self):
        for works, rules, choices, _ in cases(range(200)):
            self.assertIs(answer(keeping, works, rules, choices) != NONE, can_keep(works, rules, choices))


if __name__ == "__main__":
    unittest.main()
