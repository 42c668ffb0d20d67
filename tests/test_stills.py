"""stills.py: [16]. What it tells is held against all STILLS, each played by the second reading (tests/oracle.py)."""

import itertools
import unittest

from ringkiln.keeping import seen_of
from ringkiln.stills import (greatest_stills, helped_by, is_killing, is_outliving_list, killing_stills, never_kills,
                             out_at, outlives, outlives_all, outliving_list, run_still, worst_stills)
from tests import oracle
from tests.graphs import is_out_seen, small_rules, small_works, works_seen
from tests.support import NOUGHTS, Numbers, answer, listed, raised, some_stills, strictly

MAKE = (((20, 3, 90),), 0, 4, 4, 900, 4)
QUIET = MAKE[:5] + (0,)
MANY = raised("TooMany")
NONE = raised("NoPaper")
FEED = ((0, (("pieces", 1),), ("coal", (6,))),)
TICKS = 6


def part(heat=0, coal=(), doors="", load=None):
    return load, heat, 0, coal, "w" in doors, "d" in doors, "s" in doors


def works_of(*chambers, make=MAKE):
    return make, chambers, NOUGHTS


# With coal of 6 in each tick it is 8 for ever; each still tick takes 2.
OVEN = works_of(part(8, (), "wds"), part(0, (), "s"), part(0, (), "s"))
COLD = works_of(part(3), part(), part())
ALONE = works_of(part(8), part(), part(), make=QUIET)
WOOD = ((0, (), ("wood", 1)),)


def counting(stay):
    """A quiet FIRE of which stay + 1 unlike things are seen, still or not."""
    make = (((8, stay, 90),),) + QUIET[1:]
    return make, (part(8, load=((0, 1, 0),)), part(), part()), NOUGHTS


def fed_works(seed):
    """A FIRE that coal keeps against the earth, and the RULES that feed it: some still ticks put it out."""
    numbers = Numbers(seed * 23 + 4)
    make = (((12, 1 + numbers.below(3), 90),), 0, 3 + numbers.below(4), 4, 900, 3 + numbers.below(4))
    alone = numbers.below(2) == 0
    hot = part(6 + numbers.below(12), (5,) * numbers.below(2), "wds" if alone else "w",
               numbers.one_of((None, ((0, 2, 0),))))
    coal = 3 + numbers.below(7)
    rules = ((0, (("pieces", 1),) + numbers.one_of(((), (("below", 12),), (("from", 6),))), ("coal", (coal,))),)
    return works_of(hot, part(numbers.below(6), (), "ds"), part(0, (), "s"), make=make), rules


def cases(seeds):
    for seed in seeds:
        if seed % 3:
            yield fed_works(seed)
        else:
            works = small_works(seed)
            yield works, small_rules(seed, works[0])


def plain_out(works, rules, stills, many):
    """The least tick behind which it is out, or None."""
    return next((tick for tick, row in enumerate(oracle.rows_by(works, rules, many, stills)) if oracle.is_out(row)),
                None)


def all_stills(most, many):
    """All STILLS, those of fewest members first."""
    return [stills for size in range(most + 1) for stills in itertools.combinations(range(1, many + 1), size)]


class Runs(unittest.TestCase):
    def test_against_the_run(self):
        for seed, (works, rules) in enumerate(cases(range(250))):
            stills = some_stills(seed, TICKS)
            rows = oracle.rows_by(works, rules, TICKS, stills)
            for many in (1, 3, TICKS):
                out = next((tick for tick, row in enumerate(rows[:many + 1]) if oracle.is_out(row)), None)
                self.assertTrue(strictly(run_still(works, rules, stills, many), rows[many]))
                self.assertEqual(out_at(works, rules, stills, many), out)
                self.assertIs(outlives(works, rules, stills, many), out is None)

    def test_out_at_first(self):
        self.assertEqual((out_at(COLD, FEED, (1, 3), 5), outlives(COLD, FEED, (), 1)), (0, False))

    def test_stills_behind_the_last_tick(self):
        self.assertEqual(run_still(OVEN, FEED, (3, 9), 2), run_still(OVEN, FEED, (), 2))


class AllStills(unittest.TestCase):
    def test_greatest_and_worst(self):
        told = {}
        for works, rules in cases(range(260)):
            outs = {stills: plain_out(works, rules, stills, TICKS) for stills in all_stills(3, TICKS)}
            killing = {stills: out for stills, out in outs.items() if out is not None}
            fewest = min((len(stills) for stills in killing), default=4)
            expected = None if fewest == 0 else fewest - 1
            self.assertEqual(greatest_stills(works, rules, TICKS), expected)
            told[expected] = told.get(expected, 0) + 1
            for most in range(4):
                rows = [(out, len(stills), stills) for stills, out in killing.items() if len(stills) <= most]
                expected = min(rows)[2] if rows else NONE
                self.assertEqual(answer(worst_stills, works, rules, most, TICKS), expected)
            for stills in list(outs)[::5]:
                for most in (0, len(stills), 3):
                    self.assertIs(is_killing(works, rules, most, TICKS, stills),
                                  stills in killing and len(stills) <= most)
        self.assertEqual(sorted(map(str, told)), ["0", "1", "2", "3", "None"])

    def test_fewer_ticks(self):
        for works, rules in cases(range(200)):
            for many in (1, 2, 3):
                killing = [stills for stills in all_stills(min(3, many), many)
                           if plain_out(works, rules, stills, many) is not None]
                fewest = min(map(len, killing), default=min(3, many) + 1)
                self.assertEqual(greatest_stills(works, rules, many), fewest - 1 if fewest else None)

    def test_helped_and_never_killed(self):
        helped = 0
        for works, rules in cases(range(300)):
            base = plain_out(works, rules, (), TICKS)
            alone = [plain_out(works, rules, (tick,), TICKS) for tick in range(1, TICKS + 1)]
            expected = () if base is None else tuple(
                tick + 1 for tick, out in enumerate(alone) if out is None or out > base)
            self.assertEqual(helped_by(works, rules, TICKS), expected)
            self.assertEqual(never_kills(works, rules, TICKS),
                             tuple(tick + 1 for tick, out in enumerate(alone) if out is None))
            helped += expected != ()
        self.assertGreater(helped, 20)

    def test_by_hand(self):
        # A still tick helps: without air 8 loses 2 alone, with air and without coal it is halved, too.
        self.assertEqual(helped_by(OVEN, (), 3), (1,))
        self.assertEqual(helped_by(OVEN, FEED, 5), ())
        self.assertEqual(helped_by(COLD, (), 3), ())
        self.assertEqual(never_kills(COLD, (), 3), ())
        self.assertEqual(never_kills(ALONE, (), 60), tuple(range(1, 61)))
        self.assertEqual((greatest_stills(ALONE, (), 1), greatest_stills(ALONE, (), 2), greatest_stills(ALONE, (), 60)),
                         (1, 2, 3))
        self.assertIsNone(greatest_stills(COLD, (), 5))
        self.assertEqual(worst_stills(COLD, (), 3, 5), ())
        self.assertIs(is_killing(COLD, (), 3, 5, (2,)), True)
        self.assertIs(is_killing(OVEN, (), 0, 5, ()), True)
        self.assertIs(is_killing(OVEN, (), 0, 5, (1,)), False)

    def test_sixty_ticks(self):
        self.assertEqual(worst_stills(OVEN, FEED, 3, 60), (1,))
        self.assertEqual(greatest_stills(OVEN, FEED, 60), 0)
        self.assertEqual(answer(worst_stills, OVEN, FEED, 0, 60), NONE)

    def test_things_that_are_no_killing(self):
        self.assertIs(is_killing(OVEN, FEED, 1, 5, (1,)), True)
        self.assertIs(is_killing(OVEN, FEED, 2, 5, (1, 5)), True)
        for thing in (None, 0, 1, True, "", [], [1], (True,), (0,), (-1,), (6,), (1, 1), (2, 1), (1, 2, 3), (None,), ("1",),
                      ((1,),), (1, True), (1, None)):
            self.assertIs(is_killing(OVEN, FEED, 2, 5, thing), False, thing)
            # Not where it is out whatever is still either.
            self.assertIs(is_killing(COLD, FEED, 2, 5, thing), False, thing)


def left_graph(works, rules, most, cap=160):
    """A dict, in order, of the pairs (seen, left) with what comes of each; None if there are too many."""
    make = works[0]
    graph = {}
    rows = [(oracle.seen(works), most)]
    while rows:
        later = []
        for pair in rows:
            if pair in graph:
                continue
            if len(graph) >= cap:
                return None
            seen, left = pair
            graph[pair] = []
            if not is_out_seen(make, seen):
                own = works_seen(make, seen)
                graph[pair].append((oracle.seen(oracle.tick(own, rules)), left))
                if left:
                    graph[pair].append((oracle.seen(oracle.tick(own, rules, True)), left - 1))
            later += graph[pair]
        rows = later
    return graph


def graphs(seeds):
    for works, rules in cases(seeds):
        for most in range(4):
            graph = left_graph(works, rules, most)
            if graph is not None:
                yield works, rules, most, graph


class ForEver(unittest.TestCase):
    def test_against_all_that_can_come(self):
        lists = 0
        for works, rules, most, graph in graphs(range(300)):
            stays = all(graph.values())
            self.assertIs(outlives_all(works, rules, most), stays)
            if stays:
                lists += 1
                self.assertTrue(strictly(outliving_list(works, rules, most), tuple(graph)))
                self.assertIs(is_outliving_list(works, rules, most, tuple(graph)), True)
                self.assertEqual(answer(killing_stills, works, rules, most), NONE)
            else:
                self.assertEqual(answer(outliving_list, works, rules, most), NONE)
        self.assertGreater(lists, 150)

    def test_killing_stills(self):
        sizes = {}
        for works, rules, most, graph in graphs(range(300)):
            own = answer(killing_stills, works, rules, most)
            if own == NONE:
                continue
            sizes[len(own)] = sizes.get(len(own), 0) + 1
            self.assertLessEqual(len(own), most)
            out = plain_out(works, rules, own, (own[-1] if own else 0) + len(graph) + 1)
            self.assertTrue(out is not None and all(tick <= out for tick in own))
            if own == () or own[-1] > 9:
                continue
            # Of all STILLS to this tick none is less; those ahead of them with later ticks are told by most.
            last = own[-1]
            for stills in all_stills(len(own), last):
                if (len(stills), stills) < (len(own), own):
                    self.assertIsNone(plain_out(works, rules, stills, last + len(graph) + 1))
        self.assertGreaterEqual(set(sizes), {0, 1, 2})

    def test_least_among_all_of_a_horizon(self):
        for works, rules, most, graph in graphs(range(0, 120, 3)):
            if most > 2 or len(graph) > 12:
                continue
            last = len(graph) + 3
            killing = [stills for stills in all_stills(most, last)
                       if plain_out(works, rules, stills, last + len(graph)) is not None]
            expected = killing[0] if killing else NONE
            self.assertEqual(answer(killing_stills, works, rules, most), expected)

    def test_by_hand(self):
        self.assertEqual(killing_stills(OVEN, (), 3), ())
        self.assertEqual(killing_stills(COLD, (), 3), ())
        self.assertIs(outlives_all(COLD, (), 0), False)
        self.assertEqual(answer(outliving_list, COLD, (), 3), NONE)
        self.assertEqual(answer(killing_stills, OVEN, FEED, 0), NONE)
        self.assertEqual(outliving_list(ALONE, (), 2), tuple((seen_of(ALONE), left) for left in (2, 1, 0)))

    def test_a_tick_behind_the_still_one(self):
        # With wind 8 is 4, burns 9, and the earth leaves 9; still it is 6, then 3, in which no coal is lit.
        works = works_of(part(8, (), "wd"), part(), part(), make=MAKE[:5] + (3,))
        fed = ((0, (("pieces", 1),), ("coal", (9,))),)
        self.assertIsNone(plain_out(works, fed, (), 30))
        self.assertEqual((killing_stills(works, fed, 3), worst_stills(works, fed, 3, 9)), ((1,), (1,)))
        self.assertEqual((out_at(works, fed, (1,), 9), out_at(works, fed, (1, 2), 9)), (2, 3))
        self.assertEqual((greatest_stills(works, fed, 1), greatest_stills(works, fed, 2)), (1, 0))


def plain_is_list(works, rules, most, thing):
    """Whether a tuple of pairs (seen, left) is an OUTLIVING LIST."""
    make = works[0]
    row = set(thing)
    if len(row) < len(thing) or (oracle.seen(works), most) not in row:
        return False
    for seen, left in thing:
        if is_out_seen(make, seen) or left < 0:
            return False
        own = works_seen(make, seen)
        if (oracle.seen(oracle.tick(own, rules)), left) not in row:
            return False
        if left and (oracle.seen(oracle.tick(own, rules, True)), left - 1) not in row:
            return False
    return True


class Judge(unittest.TestCase):
    def test_spoilt_lists(self):
        answers = {True: 0, False: 0}
        for seed, (works, rules, most, graph) in enumerate(graphs(range(160))):
            numbers = Numbers(seed)
            rows = list(graph)
            for _ in range(5):
                way = numbers.below(5)
                place = numbers.below(len(rows))
                if way == 0 and len(rows) > 1:
                    del rows[place]
                elif way == 1:
                    rows[place] = (rows[place][0], numbers.below(4))
                elif way == 2:
                    rows.append((rows[place][0], numbers.below(3)))
                elif way == 3:
                    rows.reverse()
                expected = plain_is_list(works, rules, most, tuple(rows))
                self.assertIs(is_outliving_list(works, rules, most, tuple(rows)), expected)
                answers[expected] += 1
        self.assertGreater(min(answers.values()), 100)

    def test_things_that_are_none(self):
        seen = seen_of(ALONE)
        good = ((seen, 1), (seen, 0))
        self.assertIs(is_outliving_list(ALONE, (), 1, good), True)
        self.assertIs(is_outliving_list(ALONE, (), 0, good), True)
        self.assertIs(is_outliving_list(ALONE, (), 1, ((seen, 2),) + good), True)
        self.assertIs(is_outliving_list(ALONE, (), 2, good), False)
        self.assertIs(is_outliving_list(ALONE, (), 1, ((seen, 2), (seen, 1))), False)
        changed = ((None, 8, (), 0, False, False),) + seen[1:]
        for thing in (None, 0, True, "", (), [], list(good), listed(good), good[0], good + good[:1], good + (None,),
                      ((seen, 1), (seen, False)), ((seen, True), (seen, 0)), good + ((seen, -1),), good + ((seen,),),
                      good + ((seen, 0, 0),), good + (([*seen], 0),), good + ((seen[:2], 0),), good + ((changed, 0),),
                      good + ((seen, None),), good[:1]):
            self.assertIs(is_outliving_list(ALONE, (), 1, thing), False, thing)
        dead = ((None, 3, (), False, False, False),) + seen[1:]
        self.assertIs(is_outliving_list(ALONE, (), 1, good + ((dead, 0),)), False)
        more = ((None, 9, (), False, False, False),) + seen[1:]
        self.assertIs(is_outliving_list(ALONE, (), 1, good + ((more, 0),)), True)


class TooManyPairs(unittest.TestCase):
    def test_just_so(self):
        self.assertIs(outlives_all(counting(3999), (), 0), True)
        self.assertEqual(len(outliving_list(counting(3999), (), 0)), 4000)
        self.assertEqual(len(outliving_list(counting(1999), (), 1)), 3999)
        for works, most in ((counting(4000), 0), (counting(2000), 1), (counting(1400), 2)):
            for function in (outlives_all, outliving_list, killing_stills):
                self.assertEqual(answer(function, works, (), most), MANY)
        over = counting(4000)
        lot = tuple((seen_of((over[0], (part(8, load=((0, 1, stood),)),) + over[1][1:], NOUGHTS)), 0)
                    for stood in range(4001))
        self.assertIs(is_outliving_list(over, (), 0, lot), True)
        self.assertIs(is_outliving_list(over, (), 0, lot[1:]), False)
        self.assertEqual((outlives(over, (), (), 60), greatest_stills(over, (), 60)), (True, 3))

    def test_ahead_of_no_paper(self):
        for function in (outlives_all, outliving_list, killing_stills):
            self.assertEqual(answer(function, ALONE, WOOD, 0), MANY)
            # Bricked up it piles up; open it would be out at the first tick with wind behind a still one.
            self.assertEqual(answer(function, ALONE, WOOD, 3), MANY)


class Guarantees(unittest.TestCase):
    def test_some_stills_or_never_out(self):
        for works, rules, most, _ in graphs(range(150)):
            none = [answer(outliving_list, works, rules, most) == NONE,
                    answer(killing_stills, works, rules, most) == NONE]
            self.assertEqual(sorted(none), [False, True])
            self.assertIs(outlives_all(works, rules, most), none[1])
            if none[1]:
                for stills in all_stills(most, 5)[::4]:
                    self.assertIsNone(plain_out(works, rules, stills, 20))


if __name__ == "__main__":
    unittest.main()
