"""steady.py: [12]. Runs are played tick by tick by the second reading (tests/oracle.py)."""

import unittest

from ringkiln.chambers import mirror_works, seen_from, turned_works
from ringkiln.fires import fronts_of, is_out
from ringkiln.rules import run_by
from ringkiln.steady import (comes_seen, far_works, fronts_far, hottest_ever, is_out_paper, is_steady, is_steady_paper,
                             least_heat_for, least_ring, out_paper, rings_steady, round_ledger, steady_paper)
from tests import oracle
from tests.support import (NOUGHTS, SHUT, answer, lively_rules, lively_works, raised, some_chamber, some_rules,
                           some_works, strictly, Numbers)

MAKE = (((20, 3, 90),), 0, 4, 4, 900, 0)
FAR = 10 ** 30
MANY = raised("TooMany")
NONE = raised("NoPaper")


def part(heat=0, coal=(), doors="", load=None):
    return load, heat, 0, coal, "w" in doors, "d" in doors, "s" in doors


def works_of(*chambers, make=MAKE):
    return make, chambers, NOUGHTS


# A quiet FIRE whose wood piles up without end; one whose coal does.
ENDLESS = works_of(part(8), part(), part()), ((0, (), ("wood", 1)),)
PILING = works_of(part(8), part(), part()), ((0, (), ("coal", (1,))),)


def counting(stay):
    """A quiet FIRE of which stay + 1 unlike things are seen, the last one for ever."""
    make = (((8, stay, 90),),) + MAKE[1:]
    return make, (part(8, load=((0, 1, 0),)), part(), part()), NOUGHTS


def burning(pieces):
    """A FIRE in a DRAUGHT that has 8 behind each tick with a piece of coal, then 4, then 2: out."""
    return works_of(part(8, (4,) * pieces, "wd"), part(), part())


def cases(seeds):
    """WORKS and RULES of which the run comes to its end soon enough to be played."""
    for seed in seeds:
        own = some_works(seed)
        for works, rules in ((own, some_rules(seed, own[0])), (lively_works(seed), lively_rules(seed))):
            try:
                length = sum(steady_paper(works, rules)[:2]) if is_steady(works, rules) else out_paper(works, rules)
            except ValueError:
                continue
            if length <= 40:
                yield works, rules


def has_paper(rows, tick, long, turning):
    """Whether a triple is a STEADY PAPER, by rows that go that far."""
    return oracle.seen(rows[tick + long], turning) == oracle.seen(rows[tick]) and not oracle.is_out(rows[tick])


class Papers(unittest.TestCase):
    def test_against_all_triples(self):
        steady = turned = long_rounds = out = 0
        for works, rules in cases(range(130)):
            many = len(works[1])
            rows = oracle.rows_by(works, rules, 52)
            last = next((tick for tick, row in enumerate(rows) if oracle.is_out(row)), None)
            if last is not None:
                out += 1
                self.assertIs(is_steady(works, rules), False)
                self.assertEqual(out_paper(works, rules), last)
                self.assertEqual(answer(steady_paper, works, rules), NONE)
                self.assertEqual(answer(round_ledger, works, rules), NONE)
                for tick in range(0, last + 4):
                    self.assertIs(is_out_paper(works, rules, tick), tick >= last)
                    self.assertIs(is_steady_paper(works, rules, (tick, 1, 0)), False)
                continue
            steady += 1
            tick, long, turning = steady_paper(works, rules)
            turned += turning > 0
            long_rounds += long > 1
            self.assertIs(is_steady(works, rules), True)
            self.assertEqual(answer(out_paper, works, rules), NONE)
            self.assertTrue(has_paper(rows, tick, long, turning))
            triples = [(own_tick, own_long, own) for own_tick in range(tick + 3) for own_long in range(1, long + 4)
                       for own in range(many)]
            papers = [triple for triple in triples if has_paper(rows, *triple)]
            self.assertEqual(min(own[0] for own in papers), tick)
            self.assertEqual(min(own[1] for own in papers), long)
            self.assertEqual(min(papers), (tick, long, turning))
            for triple in triples[::7] + papers[:20]:
                self.assertIs(is_steady_paper(works, rules, triple), triple in papers)
            for own_tick in (0, 1, tick, tick + long, 60):
                self.assertIs(is_out_paper(works, rules, own_tick), False)
        self.assertGreater(steady, 100)
        self.assertGreater(turned, 9)
        self.assertGreater(long_rounds, 20)
        self.assertGreater(out, 60)

    def test_all_goes_on_so_for_ever(self):
        for works, rules in cases(range(60)):
            if is_steady(works, rules):
                tick, long, turning = steady_paper(works, rules)
                many = len(works[1])
                rows = oracle.rows_by(works, rules, tick + 3 * long + 2)
                for steps in range(min(long, 3)):
                    for times in (1, 2):
                        # Seen from that many turnings on it is the same, a round later.
                        self.assertEqual(oracle.seen(rows[tick + times * long + steps], times * turning % many),
                                         oracle.seen(rows[tick + steps]))
                        triple = (tick + steps, times * long, times * turning % many)
                        self.assertIs(is_steady_paper(works, rules, triple), True)

    def test_no_fire_and_a_fire_of_all(self):
        rules = ((0, (), ("wood", 9)),)
        self.assertEqual(out_paper(works_of(part(3), part(3), part()), rules), 0)
        self.assertIs(is_out_paper(works_of(part(3), part(3), part()), rules, 4000), True)
        self.assertEqual(steady_paper(works_of(part(4), part(5), part(6)), rules), (0, 1, 0))
        self.assertEqual(steady_paper(works_of(part(4), part(4), part(4)), rules), (0, 1, 0))
        self.assertEqual(answer(steady_paper, works_of(part(3), part(), part()), ()), NONE)

    def test_what_is_not_seen_does_not_count(self):
        # stood goes on behind stay, the top is greater at first, the LEDGER grows.
        works = (MAKE, ((((0, 5, 1),), 20, 90, (), True, False, False),) + (SHUT,) * 2, (5,) * 7)
        self.assertEqual(steady_paper(works, ()), (2, 1, 0))
        self.assertIs(is_steady_paper(works, (), (1, 1, 0)), False)

    def test_a_fire_is_wanted(self):
        works = works_of(part(3), part(), part())
        self.assertEqual(seen_from(run_by(works, (), 1), 0), seen_from(works, 0))
        self.assertIs(is_steady_paper(works, (), (0, 1, 0)), False)
        self.assertIs(is_steady(works, ()), False)

    def test_the_same_from_several_chambers(self):
        works = works_of(part(8), part(), part(8), part())
        self.assertEqual(steady_paper(works, ()), (0, 1, 0))
        for turning, expected in ((0, True), (1, False), (2, True), (3, False), (4, False)):
            self.assertIs(is_steady_paper(works, (), (0, 1, turning)), expected)

    def test_things_that_are_none(self):
        works = works_of(part(8), part(), part())
        self.assertIs(is_steady_paper(works, (), (0, 1, 0)), True)
        self.assertIs(is_steady_paper(works, (), (3999, 1, 0)), True)
        for thing in ([0, 1, 0], (0, 1), (0, 1, 0, 0), (-1, 1, 0), (0, 0, 0), (0, 1, -1), (0, 1, 3), (False, 1, 0),
                      (0, True, 0), (0, 1, False), (0, 1, None), ("0", 1, 0), None, 1, "", (), ((0, 1, 0),),
                      (4000, 1, 0), (1, 4000, 0), (FAR, 1, 0), (0, FAR, 0), (0, 1, FAR)):
            self.assertIs(is_steady_paper(works, (), thing), False, thing)
        out = works_of(part(3), part(), part())
        self.assertIs(is_out_paper(out, (), 0), True)
        self.assertIs(is_out_paper(out, (), 4000), True)
        for thing in (-1, 4001, FAR, True, False, None, "0", (0,), [0], (), (0, 1, 0)):
            self.assertIs(is_out_paper(out, (), thing), False, thing)
        self.assertIs(is_out_paper(works, (), 0), False)


class FourThousand(unittest.TestCase):
    def test_steady_just_so(self):
        works = counting(3999)
        self.assertEqual(steady_paper(works, ()), (3999, 1, 0))
        self.assertIs(is_steady_paper(works, (), (3999, 1, 0)), True)
        self.assertIs(is_steady(works, ()), True)
        self.assertEqual(fronts_far(works, (), FAR), (0,))
        self.assertEqual(far_works(works, (), FAR)[1][0][0], ((0, 1, FAR),))
        over = counting(4000)
        for function in (is_steady, steady_paper, out_paper, round_ledger, hottest_ever):
            self.assertEqual(answer(function, over, ()), MANY)
        for many in (0, 5, FAR):
            self.assertEqual(answer(far_works, over, (), many), MANY)
            self.assertEqual(answer(fronts_far, over, (), many), MANY)
        self.assertEqual(answer(comes_seen, over, (), over), MANY)
        self.assertIs(is_steady_paper(over, (), (4000, 1, 0)), False)
        self.assertIs(is_steady_paper(over, (), (3998, 1, 0)), False)

    def test_out_just_so(self):
        self.assertEqual(out_paper(burning(3), ()), 5)
        works = burning(3998)
        self.assertEqual(out_paper(works, ()), 4000)
        self.assertEqual([is_out_paper(works, (), tick) for tick in (3999, 4000, 4001)], [False, True, False])
        self.assertIs(is_steady(works, ()), False)
        self.assertEqual(hottest_ever(works, ()), (8, 0))
        # It is out, but what is seen then has not come again.
        for function, last in ((far_works, 0), (fronts_far, FAR), (comes_seen, works)):
            self.assertEqual(answer(function, works, (), last), MANY)
        for function in (is_steady, steady_paper, out_paper, hottest_ever, round_ledger):
            self.assertEqual(answer(function, burning(3999), ()), MANY)

    def test_piles_without_end(self):
        for works, rules in (ENDLESS, PILING):
            for function in (is_steady, steady_paper, out_paper, round_ledger, hottest_ever):
                self.assertEqual(answer(function, works, rules), MANY)
            for many in (0, 3, FAR):
                self.assertEqual(answer(far_works, works, rules, many), MANY)
                self.assertEqual(answer(fronts_far, works, rules, many), MANY)
            self.assertEqual(answer(comes_seen, works, rules, works), MANY)
            self.assertEqual(answer(rings_steady, works, SHUT, rules), MANY)
            self.assertEqual(answer(least_ring, works, SHUT, rules), MANY)
            self.assertIs(is_steady_paper(works, rules, (0, 1, 0)), False)
            self.assertIs(is_out_paper(works, rules, 5), False)
        # Heats below kindling are settled, 4 is not.
        self.assertEqual(answer(least_heat_for, ENDLESS[0], ENDLESS[1], 0), MANY)
        # With kindling in all CHAMBERS there is no front: nothing piles up there.
        warm = works_of(part(8), part(8), part())
        self.assertEqual(answer(least_heat_for, warm, ENDLESS[1], 2), MANY)

    def test_least_ones_are_asked_up_to_the_one_told(self):
        # From heat 8 on it is fed without end; below that it stays as it is.
        works = works_of(part(0), part(), part())
        rules = ((0, (("from", 8),), ("wood", 1)),)
        self.assertEqual(least_heat_for(works, rules, 0), 4)
        self.assertIs(is_steady(works_of(part(7), part(), part()), rules), True)
        self.assertEqual(answer(is_steady, works_of(part(8), part(), part()), rules), MANY)
        # With four CHAMBERS place 3 is cold, with three it is the front itself.
        ring = works_of(part(8), part(), part())
        far = ((3, (("from", 4),), ("wood", 1)),)
        self.assertEqual(answer(least_ring, ring, SHUT, far), MANY)
        near = ((3, (("below", 4),), ("coal", (1,))),)
        self.assertEqual(least_ring(ring, SHUT, near), 3)
        self.assertEqual(answer(rings_steady, ring, SHUT, near), MANY)


class Far(unittest.TestCase):
    def test_all_numbers_of_ticks_and_far_ones(self):
        seen = 0
        for works, rules in cases(range(110)):
            if answer(far_works, works, rules, 0) == MANY:
                continue
            seen += 1
            rows = oracle.rows_by(works, rules, 60)
            for many in list(range(0, 60, 7)) + [58, 59, 60]:
                self.assertTrue(strictly(far_works(works, rules, many), rows[many]), many)
                self.assertEqual(fronts_far(works, rules, many), tuple(oracle.fronts(rows[many])))
            for many in (10 ** 9, FAR, FAR - 7):
                far = far_works(works, rules, many)
                self.assertEqual(far[2][0], works[2][0] + many)
                self.assertEqual(fronts_far(works, rules, many), fronts_of(far))
                for more, row in enumerate(oracle.rows_by(far, rules, 9)):
                    self.assertTrue(strictly(far_works(works, rules, many + more), row))
        self.assertGreater(seen, 150)

    def test_parts_of_a_far_run(self):
        for works, rules in cases(range(40)):
            if answer(far_works, works, rules, 0) != MANY:
                self.assertEqual(far_works(far_works(works, rules, 10 ** 12), rules, FAR - 10 ** 12),
                                 far_works(works, rules, FAR))

    def test_what_has_stood_and_tops(self):
        make = (((6, 2, 90),), 0, 4, 4, 900, 0)
        works = (make, ((((0, 5, 7), (0, 2, 0)), 8, 3, (), False, False, False), (((0, 1, 4),), 5, 9, (), False, False, False),
                        SHUT), (1, 2, 3, 4, 5, 6, 7))
        self.assertEqual(far_works(works, (), FAR),
                         (make, ((((0, 5, 7 + FAR), (0, 2, FAR)), 8, 8, (), False, False, False),
                                 (((0, 1, 4),), 5, 9, (), False, False, False), SHUT), (1 + FAR, 2, 3, 4, 5, 6, 7)))

    def test_drawn_and_set_again_for_ever(self):
        make = (((4, 2, 90),), 0, 4, 900, 900, 0)
        works = (make, ((((0, 5, 0),), 8, 3, (), True, False, False), SHUT, SHUT), NOUGHTS)
        rules = ((0, (), ("draw",)), (0, (("empty",),), ("set", ((0, 3),))))
        far = far_works(works, rules, FAR)
        self.assertEqual(far[1][0][0], ((0, 3, 1),))
        self.assertEqual(far[2], (FAR, 0, 0, 0, 0, 5 + 3 * (FAR - 1), 0))

    def test_from_chamber_0_and_turned(self):
        # What is seen comes again turned long before it comes again from CHAMBER 0.
        kiln = (((12, 1, 90),), 0, 8, 8, 1000, 0)
        works = (kiln, (part(6, (), "w"), part(24), part(10, (), "d"), part(2, (), "wd"), part()), NOUGHTS)
        rules = ((0, (("pieces", 1),), ("coal", (10,))), (-1, (), ("open",)), (1, (), ("brick",)),
                 (0, (), ("damper", False)), (2, (), ("damper", True)))
        self.assertEqual(steady_paper(works, rules), (4, 2, 1))
        rows = oracle.rows_by(works, rules, 40)
        for many in range(41):
            self.assertEqual(fronts_far(works, rules, many), tuple(oracle.fronts(rows[many])))
            self.assertEqual(far_works(works, rules, many), rows[many])
        self.assertEqual(fronts_far(works, rules, 4 + 10 * FAR), fronts_of(rows[4]))
        self.assertEqual(fronts_far(works, rules, 6 + 10 * FAR), fronts_of(rows[6]))


class Sums(unittest.TestCase):
    def test_round_ledger_and_hottest_ever(self):
        grown = 0
        for works, rules in cases(range(120)):
            rows = oracle.rows_by(works, rules, 60)
            heats = [max(chamber[1] for chamber in row[1]) for row in rows]
            self.assertEqual(hottest_ever(works, rules), (max(heats), heats.index(max(heats))))
            if is_steady(works, rules):
                tick, long, _ = steady_paper(works, rules)
                expected = tuple(b - a for a, b in zip(rows[tick][2], rows[tick + long][2]))
                self.assertEqual(round_ledger(works, rules), expected)
                self.assertEqual(expected[0], long)
                grown += expected[1] > 0
                later = oracle.rows_by(rows[tick + long], rules, long)[-1][2]
                self.assertEqual(tuple(b - a for a, b in zip(rows[tick + long][2], later)), expected)
        self.assertGreater(grown, 20)

    def test_hottest_of_those_that_are_out(self):
        self.assertEqual(hottest_ever(works_of(part(3, (), "wd"), part(2), part()), ()), (3, 0))
        self.assertEqual(hottest_ever(works_of(part(), part(), part()), ()), (0, 0))
        self.assertEqual(hottest_ever(works_of(part(8, (30,), "wd"), part(), part()), ()), (34, 1))

    def test_comes_seen(self):
        found = nothing = 0
        for seed, (works, rules) in enumerate(cases(range(80))):
            rows = oracle.rows_by(works, rules, 60)
            many = len(works[1])
            others = [turned_works(rows[tick], seed % many) for tick in (0, 1, 5, 30)]
            others += [mirror_works(works), turned_works(works, 1), (works[0], works[1], (9,) * 7)]
            others.append((works[0], (works[1][0][:1] + (99,) + works[1][0][2:],) + works[1][1:], works[2]))
            for other in others:
                expected = next((tick for tick, row in enumerate(rows) if oracle.seen(other) in
                                 [oracle.seen(row, number) for number in range(many)]), None)
                own = answer(comes_seen, works, rules, other)
                if own == MANY:
                    continue
                self.assertEqual(own, expected)
                found += expected is not None
                nothing += expected is None
        self.assertGreater(found, 150)
        self.assertGreater(nothing, 80)

    def test_comes_seen_counts_no_tops_and_no_ledger(self):
        works = (MAKE, ((((0, 5, 1),), 20, 90, (), True, False, False),) + (SHUT,) * 2, NOUGHTS)
        other = (MAKE, (SHUT, (((0, 5, 77),), 20, 20, (), True, False, False), SHUT), (7,) * 7)
        self.assertEqual(comes_seen(works, (), turned_works(other, 1)), 2)
        self.assertEqual(comes_seen(works, (), other), 2)


class LeastOnes(unittest.TestCase):
    def test_rings(self):
        sizes = set()
        for seed in range(25):
            works, rules = lively_works(seed), lively_rules(seed)
            filler = some_chamber(Numbers(seed), works[0])
            rings = {many: (works[0], works[1] + (filler,) * (many - len(works[1])), works[2])
                     for many in range(len(works[1]), 13)}
            answers = {many: answer(is_steady, ring, rules) for many, ring in rings.items()}
            if MANY in answers.values():
                self.assertEqual(answer(rings_steady, works, filler, rules), MANY)
            else:
                expected = tuple(many for many in rings if answers[many])
                self.assertEqual(rings_steady(works, filler, rules), expected)
                sizes.add(expected)
            told = [many for many in rings if answers[many] is not False]
            if told and answers[told[0]] == MANY:
                self.assertEqual(answer(least_ring, works, filler, rules), MANY)
            else:
                self.assertEqual(least_ring(works, filler, rules), told[0] if told else None)
        self.assertGreater(len(sizes), 4)

    def test_rings_of_3_and_of_12(self):
        works = works_of(part(8), part(), part())
        self.assertEqual(rings_steady(works, part(), ()), tuple(range(3, 13)))
        twelve = works_of(*[part(8)] + [part()] * 11)
        self.assertEqual((rings_steady(twelve, part(), ()), least_ring(twelve, part(), ())), ((12,), 12))
        out = works_of(*[part(3)] * 12)
        self.assertEqual((rings_steady(out, part(8), ()), least_ring(out, part(8), ())), ((), None))
        self.assertEqual(least_ring(works_of(part(), part(), part()), part(8), ()), 4)

    def test_least_heat(self):
        told = set()
        for seed in range(25):
            works, rules = lively_works(seed), lively_rules(seed)
            for number in (0, 1, 3):
                expected = None
                for heat in range(61):
                    chamber = works[1][number][:1] + (heat,) + works[1][number][2:]
                    row = works[1][:number] + (chamber,) + works[1][number + 1:]
                    expected = answer(is_steady, (works[0], row, works[2]), rules)
                    if expected is not False:
                        expected = heat if expected is True else expected
                        break
                else:
                    expected = None
                self.assertEqual(answer(least_heat_for, works, rules, number), expected)
                told.add(expected)
        self.assertGreater(len(told), 4)

    def test_least_heat_bounds(self):
        make = (((20, 3, 90),), 0, 61, 4, 900, 0)
        self.assertIsNone(least_heat_for(works_of(part(), part(), part(), make=make), (), 0))
        make = (((20, 3, 90),), 0, 60, 4, 900, 0)
        self.assertEqual(least_heat_for(works_of(part(), part(), part(), make=make), (), 2), 60)
        self.assertEqual(least_heat_for(works_of(part(9), part(), part()), (), 1), 0)
        for number in (-1, 3, 99):
            self.assertEqual(answer(least_heat_for, ENDLESS[0], ENDLESS[1], number), raised("NoChamber", number))


class Guarantees(unittest.TestCase):
    def test_never_both_papers_and_out_stays_out(self):
        for works, rules in cases(range(60)):
            both = [answer(steady_paper, works, rules) == NONE, answer(out_paper, works, rules) == NONE]
            self.assertEqual(sorted(both), [False, True])
            if both[0]:
                last = out_paper(works, rules)
                self.assertTrue(all(is_out(row) for row in oracle.rows_by(works, rules, last + 9)[last:]))

    def test_turned_all_is_told_turned(self):
        for works, rules in cases(range(60)):
            other = turned_works(works, 1)
            self.assertEqual(answer(steady_paper, other, rules), answer(steady_paper, works, rules))
            self.assertEqual(answer(out_paper, other, rules), answer(out_paper, works, rules))
            self.assertEqual(hottest_ever(other, rules), hottest_ever(works, rules))
            self.assertEqual(answer(comes_seen, other, rules, works), answer(comes_seen, works, rules, works))


if __name__ == "__main__":
    unittest.main()
