"""repairs.py: [19]. Runs with CHAMBERS out of use are played tick by tick by a second reading (tests/events.py)."""

import itertools
import unittest

from ringkiln.repairs import (is_no_repair, is_repair, jump_room, least_loss, longest_jump, loses_by, no_repair, out_from,
                              past_at, put_out, repair_at, repaired_run)
from ringkiln.rules import run_by
from tests import oracle
from tests.events import rows_of, yard_rules, yard_works
from tests.graphs import small_rules, small_works
from tests.support import (NOUGHTS, Numbers, answer, kept, listed, lively_rules, lively_works, raised, some_rules,
                           some_works, strictly)
from tests.test_back import part, works_of

NONE = raised("NoPaper")
MADE = (((2, 1, 100),), 0, 8, 6, 50, 0)
SHUT = (None, 0, 0, (), False, False, True)
YARD = (MADE, ((None, 4, 0, (), True, False, True), SHUT, (None, 16, 0, (), True, True, True)), NOUGHTS)
ORDERS = ((0, (), ("coal", (8,))), (1, (("set",),), ("draw",)), (1, (("empty",),), ("set", ((0, 5),))))


def some_case(seed):
    """A WORKS, RULES, and how many ticks."""
    numbers = Numbers(seed * 13 + 1)
    way = seed % 7
    if way == 0:
        works = yard_works(seed)
        rules = yard_rules(seed, works[0])
    elif way == 1:
        works, rules = lively_works(seed), lively_rules(seed)
    elif way == 2:
        works = some_works(seed)
        rules = some_rules(seed, works[0])
    elif way == 3:
        works, rules = tender_case(seed)
    else:
        works, rules = drawing_case(seed)
    return works, rules, 1 + numbers.below(7)


def drawing_case(seed):
    """A FIRE that stays, and warm CHAMBERS next to it in which bricks are set and drawn; or a damper that cools them."""
    numbers = Numbers(seed * 53 + 9)
    make = (((2, 1, 90),), 0, 10, 9, 99, 0)
    if seed % 7 > 4:
        rules = [(1, (("set",),), ("draw",)), (1, (("empty",),), ("set", ((0, 5),))), (2, (("set",),), ("draw",)),
                 (2, (("empty",),), ("set", ((0, 3),)))]
        chambers = ((None, 10 + numbers.below(9), 0, (), False, False, True),) + tuple(
            (numbers.one_of((None, None, ((0, 4, 0),))), 1 + numbers.below(4), 0, (), True, False, True) for _ in range(3))
        return (make, chambers, NOUGHTS), tuple(rule for rule in rules if numbers.below(5))
    ware = ((0, 1 + numbers.below(9), 0),)
    chambers = ((None, 26 + numbers.below(9), 0, (), True, False, False), (None, numbers.below(3), 0, (), False, False, False),
                (ware, numbers.below(2), 0, (), False, True, True), SHUT)
    rules = ((1, (), ("damper", True)), (2, (("from", 2),), ("open",)), (2, (("set",),), ("draw",)))
    return (make, chambers, NOUGHTS), rules


def tender_case(seed):
    """A FIRE that is fed by RULES, bricks drawn and set around it, doors that RULES open and shut."""
    numbers = Numbers(seed * 19 + 3)
    make = (((2, 1 + numbers.below(2), 90),), 0, 10, numbers.one_of((6, 8, 60)), 70, 0)
    ware = ((0, 4, numbers.below(2)),)
    chambers = [(None, 10 + numbers.below(20), 0, (), True, numbers.below(2) == 0, False)]
    for _ in range(2 + numbers.below(3)):
        load, heat = numbers.one_of((None, None, ware)), numbers.below(6)
        chambers.append((load, heat, 0 if load is None else heat, (), numbers.below(2) == 0, numbers.below(3) == 0, False))
    rules = [(0, (("pieces", 1),), ("coal", (12,))), (1, (("set",),), ("draw",)), (1, (("empty",),), ("set", ((0, 5),))),
             (2, (), ("draw",)), (-1, (("set",),), ("draw",)), (1, (), ("damper", True)), (2, (("from", 2),), ("open",)),
             (2, (("empty",),), ("set", ((0, 3),))), (0, (("pieces", 1),), ("coal", (9,))), (1, (("from", 2),), ("open",))]
    by = numbers.below(len(chambers))
    return (make, tuple(chambers[by:] + chambers[:by]), NOUGHTS), tuple(numbers.one_of(rules) for _ in range(4))


def cases(many):
    for seed in range(many):
        yield some_case(seed)


def plain_rows(works, rules, repair, many):
    number, first, long = repair
    return rows_of(works, rules, many, lambda tick: (number,) if first <= tick < first + long else ())


def plain_parts(works, rules, repair, many):
    """What of each row of the table is so: (tick entered, tick out, good lost), None for each that is not."""
    number, first, long = repair
    rows, without = plain_rows(works, rules, repair, many), rows_of(works, rules, many)
    entered = [tick for tick in range(first, first + long)
               if rows[tick - 1][1][number][0] is not None or rows[tick - 1][1][number][1] >= works[0][3]]
    out = [tick for tick in range(1, many + 1) if oracle.is_out(rows[tick]) and not oracle.is_out(without[tick])]
    return entered[0] if entered else None, out[0] if out else None, without[-1][2][4] - rows[-1][2][4]


def plain_cost(works, rules, repair, many):
    entered, out, lost = plain_parts(works, rules, repair, many)
    if entered is not None:
        return "entered", entered
    if out is not None:
        return "out", out
    return ("lost", lost) if lost >= 1 else None


def catches(rows, number, first=1):
    kindling = rows[0][0][2]
    return [tick for tick in range(first, len(rows))
            if rows[tick - 1][1][number][1] < kindling and rows[tick][1][number][1] >= kindling]


class Repairs(unittest.TestCase):
    def test_against_the_second_reading(self):
        seen = {"entered": 0, "out": 0, "lost": 0, None: 0, "later": 0}
        for works, rules, many in cases(140):
            for number in range(len(works[1])):
                for first in range(1, many + 1):
                    for long in {1, 1 + (first + number) % (many - first + 1)}:
                        repair = (number, first, long)
                        cost = plain_cost(works, rules, repair, many)
                        self.assertTrue(strictly(loses_by(works, rules, repair, many), cost))
                        rows = plain_rows(works, rules, repair, many)
                        expected = raised("Unfit") if cost and cost[0] == "entered" else rows[1:]
                        self.assertTrue(strictly(answer(repaired_run, works, rules, repair, many), expected))
                        ahead = (number + 1) % len(works[1])
                        self.assertEqual(past_at(works, rules, repair, many), (catches(rows, ahead, first) + [None])[0])
                        seen[cost and cost[0]] += 1
                        seen["later"] += bool(cost and cost[0] == "entered" and cost[1] > first)
        self.assertGreater(min(seen.values()), 8, seen)

    def test_all_of_a_chamber_against_the_second_reading(self):
        found = {"repair": 0, "refusal": 0, "gain": 0}
        for works, rules, many in cases(160):
            for number in range(len(works[1])):
                long = 1 + (number + many) % many
                firsts = range(1, many - long + 2)
                costs = [plain_cost(works, rules, (number, first, long), many) for first in firsts]
                parts = [plain_parts(works, rules, (number, first, long), many) for first in firsts]
                arguments = (works, rules, number, long, many)
                self.assertTrue(strictly(out_from(*arguments), tuple(
                    first for first, own in zip(firsts, parts) if own[0] is None)))
                free = [first for first, cost in zip(firsts, costs) if cost is None]
                self.assertTrue(strictly(answer(repair_at, *arguments), free[0] if free else NONE))
                self.assertTrue(strictly(answer(no_repair, *arguments), NONE if free else tuple(costs)))
                for first in range(-1, many + 3):
                    self.assertIs(is_repair(*arguments, first), first in free)
                self.assertIs(is_no_repair(*arguments, tuple(costs)), not free)
                self.assertIs(is_no_repair(*arguments, tuple(costs[1:])), False)
                losses = [(own[2], first) for first, own in zip(firsts, parts) if own[:2] == (None, None)]
                self.assertTrue(strictly(least_loss(*arguments), min(losses) if losses else None))
                found["repair" if free else "refusal"] += 1
                found["gain"] += bool(losses) and min(losses)[0] < 0
        self.assertGreater(min(found.values()), 1, found)

    def test_a_loss_below_0(self):
        # The damper of CHAMBER 1, opened in tick 1, keeps the heat from the SET: left shut, what is drawn is good.
        make = (((2, 1, 90),), 0, 10, 6, 99, 0)
        works = (make, ((None, 30, 0, (), True, False, False), (None, 0, 0, (), False, False, False),
                        (((0, 7, 0),), 0, 0, (), False, True, True), SHUT), NOUGHTS)
        rules = ((1, (), ("damper", True)), (2, (("from", 2),), ("open",)), (2, (("set",),), ("draw",)))
        self.assertEqual(run_by(works, rules, 3)[2][4:6], (0, 0))
        self.assertEqual(repaired_run(works, rules, (1, 1, 1), 3)[-1][2][4:6], (7, 0))
        self.assertIsNone(loses_by(works, rules, (1, 1, 1), 3))
        self.assertEqual(least_loss(works, rules, 1, 1, 3), (-7, 1))
        self.assertEqual(repair_at(works, rules, 1, 1, 3), 1)

    def test_the_least_loss_is_the_first_of_several(self):
        self.assertEqual(least_loss(YARD, ORDERS, 1, 1, 4), (0, 1))
        self.assertEqual([loses_by(YARD, ORDERS, (0, first, 1), 4) for first in (1, 2, 3, 4)],
                         [("lost", 5), ("entered", 2), ("entered", 3), ("entered", 4)])
        self.assertIsNone(least_loss(YARD, ORDERS, 2, 1, 4))

    def test_ends_with_the_last_tick(self):
        for first, long in ((4, 1), (3, 2), (1, 4)):
            self.assertIsNone(loses_by(YARD, ORDERS, (1, first, long), 4))
            self.assertEqual(answer(loses_by, YARD, ORDERS, (1, first + 1, long), 4), raised("NoTick", first + 1))
        # Nothing would be drawn from CHAMBER 0 ahead of tick 2, then at each tick.
        self.assertEqual([loses_by(YARD, ORDERS, (0, 1, long), 4) for long in (1, 2, 3, 4)],
                         [("lost", 5), ("lost", 10), ("lost", 15), ("lost", 15)])
        self.assertEqual(no_repair(YARD, ORDERS, 0, 4, 4), (("lost", 15),))
        self.assertEqual(repair_at(YARD, ORDERS, 0, 1, 1), 1)
        self.assertEqual(answer(no_repair, YARD, ORDERS, 0, 1, 1), NONE)

    def test_entered_at_the_first_tick(self):
        for works in (works_of(part(9), part(3, (), "", ((0, 3, 0),)), part(3, (), "", 4)),):
            for number in (1, 2):
                self.assertEqual(loses_by(works, (), (number, 1, 2), 2), ("entered", 1))
                self.assertEqual(out_from(works, (), number, 1, 3), ())
                self.assertEqual(no_repair(works, (), number, 1, 3), (("entered", 1), ("entered", 2), ("entered", 3)))
        make = MADE[:3] + (9,) + MADE[4:]
        for heat, cost in ((8, None), (9, ("entered", 1)), (10, ("entered", 1))):
            works = works_of(part(9), part(heat), part(), make=make)
            self.assertEqual(loses_by(works, (), (1, 1, 1), 1), cost)

    def test_entered_while_it_goes_on(self):
        # Air warms CHAMBER 1 to cool behind tick 1: in tick 2 it is entered; it cools, later ones are not.
        make = (((90, 1, 90),), 0, 60, 10, 99, 0)
        works = works_of(part(20, (), "w"), part(2), part(0, (), "d"), make=make)
        self.assertEqual([row[1][1][1] for row in rows_of(works, (), 3)], [2, 6, 6, 4])
        for cool, costs in ((6, (("entered", 2), ("entered", 2), ("entered", 3))), (7, (None, None, None))):
            works = (make[:3] + (cool,) + make[4:],) + works[1:]
            self.assertEqual(tuple(loses_by(works, (), (1, first, 1 if first > 1 else 2), 3) for first in (1, 2, 3)), costs)

    def test_out(self):
        hall = (MADE, ((None, 40, 0, (), True, False, False), (None, 0, 0, (), False, True, True), SHUT), NOUGHTS)
        fed = ((1, (("pieces", 1),), ("coal", (20,))),)
        self.assertEqual([loses_by(hall, fed, (1, 1, 1), many) for many in (3, 4, 9)], [None, ("out", 4), ("out", 4)])
        self.assertEqual(repaired_run(hall, fed, (1, 1, 1), 4), rows_of(hall, fed, 4, lambda tick: (1,) if tick == 1 else ())[1:])
        # It goes out without the REPAIR, too, not later: that costs nothing.
        self.assertIsNone(loses_by(hall, (), (1, 1, 1), 9))
        self.assertIs(is_repair(hall, (), 1, 1, 9, 1), True)

    def test_out_at_the_first_tick(self):
        # 16 is 8 behind the air; with coal it is 28, and the earth has 14; without, it has 4 of 8.
        works = works_of(part(16, (), "wd"), part(), part(), make=(((2, 1, 100),), 0, 8, 60, 99, 2))
        fed = ((0, (("pieces", 1),), ("coal", (20,))),)
        for many in (1, 2, 5):
            self.assertEqual(loses_by(works, fed, (0, 1, 1), many), ("out", 1))
        self.assertIsNone(least_loss(works, fed, 0, 1, 1))

    def test_one_brick_lost(self):
        for count in (1, 2):
            orders = ORDERS[:2] + ((1, (("empty",),), ("set", ((0, count),))),)
            self.assertEqual(loses_by(YARD, orders, (0, 1, 1), 2), ("lost", count))
            self.assertIs(is_repair(YARD, orders, 0, 1, 2, 1), False)

    def test_works_that_is_out(self):
        works = works_of(part(3), part(3, (), "", ((0, 3, 0),)), part(2), make=MADE)
        for rules in ((), ORDERS):
            for first in (1, 2, 3):
                self.assertIsNone(loses_by(works, rules, (0, first, 1), 3))
                self.assertEqual(loses_by(works, rules, (1, first, 1), 3), ("entered", first))
            self.assertEqual(put_out(works, rules, 3), ())
            self.assertEqual(jump_room(works, rules, 0, 3), ())
            self.assertIsNone(longest_jump(works, rules, 3))
            self.assertEqual(least_loss(works, rules, 0, 2, 3), (0, 1))
            self.assertIsNone(least_loss(works, rules, 1, 2, 3))

    def test_a_fire_of_all(self):
        # It has no front: no RULE is used, nobody catches, and what is out of use is no matter.
        works = works_of(part(9), part(9), part(9), make=MADE[:3] + (60,) + MADE[4:])
        for number in range(3):
            self.assertIsNone(loses_by(works, ORDERS, (number, 1, 3), 3))
            self.assertEqual(repaired_run(works, ORDERS, (number, 1, 3), 3), rows_of(works, (), 3)[1:])
            self.assertEqual(out_from(works, ORDERS, number, 2, 3), (1, 2))
            self.assertIsNone(past_at(works, ORDERS, (number, 1, 1), 3))
            self.assertEqual(jump_room(works, ORDERS, number, 3), ())
        self.assertEqual((longest_jump(works, ORDERS, 3), put_out(works, ORDERS, 3)), (None, None))

    def test_no_rules(self):
        for works, _, many in cases(60):
            rows = rows_of(works, (), many)[1:]
            for number in range(len(works[1])):
                cost = loses_by(works, (), (number, 1, many), many)
                self.assertIn(cost and cost[0], (None, "entered"))
                if cost is None:
                    self.assertTrue(strictly(repaired_run(works, (), (number, 1, many), many), rows))

    def test_rules_all_else_goes_on(self):
        # Acts at other CHAMBERS are done, also those of the same RULE; acts at it are done behind the REPAIR.
        works = works_of(part(20), part(), part(20), part(), make=MADE)
        rules = ((1, (), ("open",)),)
        rows = repaired_run(works, rules, (1, 1, 2), 3)
        self.assertEqual([[chamber[4] for chamber in row[1]] for row in rows],
                         [[False, False, False, True], [False, False, False, True], [False, True, False, True]])


class Jumps(unittest.TestCase):
    def test_against_the_second_reading(self):
        rooms = {}
        for seed in range(120):
            if seed % 2:
                works, rules = lively_works(seed), lively_rules(seed)
            else:
                works, rules = small_works(seed), small_rules(seed, small_works(seed)[0])
            works = (works[0], works[1][:5], works[2])
            ring, many = len(works[1]), 1 + seed % 6
            expected = []
            for number in range(ring):
                room = []
                for long in range(1, ring - 1):
                    resting = tuple((number + step) % ring for step in range(long))
                    rows = rows_of(works, rules, many, lambda tick: resting)
                    if catches(rows, (number + long) % ring):
                        room.append(long)
                self.assertTrue(strictly(jump_room(works, rules, number, many), tuple(room)))
                expected += [(-long, number) for long in room]
                rooms[tuple(room)] = rooms.get(tuple(room), 0) + 1
            best = (-min(expected)[0], min(expected)[1]) if expected else None
            self.assertTrue(strictly(longest_jump(works, rules, many), best))
        self.assertGreaterEqual(len(rooms), 4)
        self.assertGreater(sum(many for room, many in rooms.items() if room and room[-1] > 1), 20)

    def test_rings_of_3(self):
        # The CHAMBER ahead of number is number - 2 there.
        works = works_of(part(0, (), "d"), part(40, (20,), "w"), part(), make=MADE)
        self.assertEqual([jump_room(works, (), number, 3) for number in (0, 1, 2)], [(), (1,), (1,)])
        self.assertEqual(longest_jump(works, (), 3), (1, 1))
        for number in range(3):
            for first in (1, 2, 3):
                rows = rows_of(works, (), 3)
                self.assertEqual(past_at(works, (), (number, first, 1), 3), (catches(rows, number - 2, first) + [None])[0])

    def test_the_longest_of_a_room_counts(self):
        # 60 is 30 and 30, then 15 and 15, 8 and 7: 1 and 2 catch at tick 1.
        works = works_of(part(60, (), "w"), part(), part(), part(0, (), "d"), make=MADE)
        self.assertEqual([jump_room(works, (), number, 1) for number in range(4)], [(1, 2), (1,), (), (2,)])
        self.assertEqual(longest_jump(works, (), 1), (2, 0))

    def test_put_out_against_all_sets(self):
        found = {}
        for seed in range(100):
            if seed % 2:
                works, rules = lively_works(seed), lively_rules(seed)
                works = (works[0], works[1][:5], works[2])
            else:
                works, rules = tender_case(seed)
            many = 1 + seed % 7
            ring = len(works[1])
            sets = sorted((rest for long in range(ring + 1) for rest in itertools.combinations(range(ring), long)),
                          key=lambda rest: (len(rest), rest))
            expected = None
            for rest in sets:
                if oracle.is_out(rows_of(works, rules, many, lambda tick: rest)[-1]):
                    expected = rest
                    break
            self.assertTrue(strictly(put_out(works, rules, many), expected))
            size = None if expected is None else len(expected)
            found[size] = found.get(size, 0) + 1
        self.assertTrue({None, 0, 1} <= set(found), found)


class Errors(unittest.TestCase):
    def test_chamber_first_then_tick(self):
        for number in (-1, 3, 99):
            for first, long in ((1, 1), (0, 1), (4, 2), (-5, 4)):
                for function in (loses_by, repaired_run, past_at):
                    self.assertEqual(answer(function, YARD, ORDERS, (number, first, long), 4), raised("NoChamber", number))
            for function in (out_from, repair_at, no_repair, least_loss):
                self.assertEqual(answer(function, YARD, ORDERS, number, 1, 4), raised("NoChamber", number))
            for function in (is_repair, is_no_repair):
                for thing in (1, None, (("lost", 5),)):
                    self.assertEqual(answer(function, YARD, ORDERS, number, 1, 4, thing), raised("NoChamber", number))
            self.assertEqual(answer(jump_room, YARD, ORDERS, number, 4), raised("NoChamber", number))
        for first, long in ((0, 1), (-1, 1), (-1, 4), (5, 1), (4, 2), (2, 4), (99, 1)):
            for function in (loses_by, repaired_run, past_at):
                for number in (0, 2):
                    self.assertEqual(answer(function, YARD, ORDERS, (number, first, long), 4), raised("NoTick", first))
        # CHAMBER 2 is too hot: Unfit comes last.
        self.assertEqual(answer(repaired_run, YARD, ORDERS, (2, 1, 1), 4), raised("Unfit"))
        self.assertEqual(answer(past_at, YARD, ORDERS, (2, 1, 1), 4), None)

    def test_things(self):
        refusal = (("lost", 5), ("entered", 2))
        self.assertEqual(no_repair(YARD, ORDERS, 0, 1, 2), refusal)
        self.assertIs(is_no_repair(YARD, ORDERS, 0, 1, 2, refusal), True)
        for thing in (list(refusal), (list(refusal[0]), refusal[1]), refusal[:1], refusal + refusal[:1], refusal[::-1], None,
                      True, 0, "", (), (("lost", 4), ("entered", 2)), (("lost", 6), ("entered", 2)), (("lost", 5), None),
                      (("lost", 5), ("out", 2)), (("lost", 5, 0), ("entered", 2)), (("lost", "5"), ("entered", 2))):
            self.assertIs(is_no_repair(YARD, ORDERS, 0, 1, 2, thing), False, thing)
            self.assertIs(is_no_repair(YARD, ORDERS, 1, 1, 2, thing), False, thing)
        self.assertIs(is_no_repair(YARD, ORDERS, 2, 1, 1, (("entered", 1),)), True)
        self.assertIs(is_no_repair(YARD, ORDERS, 2, 1, 1, (("entered", True),)), False)
        self.assertIs(is_repair(YARD, ORDERS, 1, 2, 4, 1), True)
        for thing in (True, (1,), [1], None, "1", 0, -1, 4, 5, 99, ()):
            self.assertIs(is_repair(YARD, ORDERS, 1, 2, 4, thing), False, thing)
        # A PAPER of the other kind.
        self.assertIs(is_repair(YARD, ORDERS, 0, 1, 2, refusal), False)
        self.assertIs(is_no_repair(YARD, ORDERS, 1, 2, 4, 1), False)

    def test_lists_and_what_is_handed_in(self):
        for works, rules, many in cases(40):
            own = [listed(works), listed(rules), [0, 1, 1], many]
            before = kept(own)
            for function in (loses_by, repaired_run, past_at):
                self.assertTrue(strictly(answer(function, *own), answer(function, works, rules, (0, 1, 1), many)))
                self.assertEqual(own, before)
            found = answer(repaired_run, *own)
            if isinstance(found, list):
                found.append(None)
                self.assertEqual(len(repaired_run(*own)), many)


if __name__ == "__main__":
    unittest.main()
