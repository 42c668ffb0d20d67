"""alike.py: [21]. One CHAMBER is tried at each set of places at which it can lie, by a second reading of step 2."""

import itertools
import unittest

from ringkiln.alike import (alike_from, alike_rules, alike_sizes, first_unlike_tick, is_parting_works, needed_rules,
                            order_free, parting_places, parting_works, places_round, swaps_free)
from ringkiln.rules import ruled
from tests import oracle
from tests.graphs import small_rules, small_works
from tests.support import (NOUGHTS, Numbers, answer, kept, listed, lively_rules, lively_works, raised, some_rules,
                           some_works, strictly)
from tests.test_back import part, works_of

NONE = raised("NoPaper")
BARE = (((20, 1, 90),), 0, 10, 8, 99, 0)
COLD = (None, 0, 0, (), False, False, False)
FILL = (1, (("pieces", 1),), ("coal", (12,)))
WOOD, UNBRICK = (3, (), ("wood", 20)), (1, (("from", 10),), ("open",))


def some_test(numbers):
    word = numbers.one_of(("empty", "set", "slag", "below", "from", "pieces", "wicket", "damper", "screen"))
    if word in ("empty", "set", "slag"):
        return (word,)
    if word == "pieces":
        return word, numbers.below(3)
    if word in ("below", "from"):
        return word, numbers.below(5)
    return word, numbers.below(2) == 0


def some_rule(numbers):
    """A RULE of small numbers, so that few CHAMBERS stand for all."""
    word = numbers.one_of(("set", "draw", "clear", "brick", "open", "damper", "screen", "coal", "wood"))
    act = (word,)
    if word == "set":
        act = word, numbers.one_of((((0, 1),), ((0, 2),), ((0, 1), (0, 1))))
    if word in ("damper", "screen"):
        act = word, numbers.below(2) == 0
    if word == "coal":
        act = word, numbers.one_of(((1,), (2,), (1, 2), ()))
    if word == "wood":
        act = word, numbers.below(3)
    return numbers.one_of((0, 1, 2, -1, 3)), numbers.many(2, lambda: some_test(numbers)), act


def other_rules(numbers, rules, size):
    """RULES that are often alike with these."""
    way = numbers.below(7)
    if way == 0:
        return rules[::-1]
    if way == 1:
        return rules + rules[:1]
    if way == 2:
        return rules[1:]
    if way == 3:
        return tuple((place - size, when, act) for place, when, act in rules)
    if way == 4:
        return tuple((place, when[1:], act) for place, when, act in rules)
    if way == 5:
        return rules + ((rules[0][0], (("below", 2), ("from", 2)), ("open",)),)
    return tuple(some_rule(numbers) for _ in range(1 + numbers.below(2)))


def some_case(seed):
    """A MAKE, a size, and two RULES."""
    numbers = Numbers(seed * 71 + 5)
    make = (((3, 1, 9),), 0, 1 + numbers.below(4), 1 + numbers.below(5), 9, 0)
    size = 3 + numbers.below(4)
    rules = tuple(some_rule(numbers) for _ in range(1 + numbers.below(3)))
    return make, size, rules, other_rules(numbers, rules, size)[:4]


def place_sets(size):
    """All sets of places at which one CHAMBER can lie, the least first."""
    return [places for long in range(size + 1) for places in itertools.combinations(range(size), long)
            if not any((place + 1) % size in places for place in places)]


def all_chambers(places, make):
    """The CHAMBERS with all that small TESTS can tell apart that can lie at these places."""
    for load in (None, ((0, 1, 0),), ((0, 9, 5),), 3):
        for heat in range(8):
            if 0 in places and heat < make[2] or 1 in places and heat >= make[2]:
                continue
            for top in (0,) if load is None else (0, heat, 20):
                for coal in ((), (1,), (2, 2, 2)):
                    for doors in itertools.product((False, True), repeat=3):
                        yield (load, heat, top, coal) + doors


def ruled_alone(make, size, places, chamber, rules):
    """What RULES do to one CHAMBER at these places, and from it to the LEDGER."""
    state = oracle.opened((make, (chamber,) * 3, NOUGHTS))
    for place, when, act in rules:
        if place % size in places and all(oracle.holds(state["ring"][0], test) for test in when):
            try:
                oracle.do(state, (act[0], 0) + act[1:])
            except oracle.CannotBeDone:
                pass
    behind = oracle.closed(state)
    return behind[1][0], behind[2]


def works_at(make, size, places, chamber):
    """A WORKS in which CHAMBER 0, this one, lies at just these places."""
    fronts = [-place % size for place in places]
    hot = list(fronts)
    if chamber[1] >= make[2] and 0 not in fronts:
        hot += range(min(fronts + [size]))
    chambers = [chamber] + [(None, make[2] if number in hot else 0, 0, (), False, False, False)
                            for number in range(1, size)]
    return make, tuple(chambers), NOUGHTS


def plain_ruled(works, rules):
    state = oracle.opened(works)
    oracle.obey(state, rules)
    return oracle.closed(state)


def plain_parting(make, size, one, other, every=1):
    """The least set of places at which some CHAMBER has unlike things done to it, None if there is none."""
    for places in place_sets(size):
        for chamber in list(all_chambers(places, make))[::every]:
            if ruled_alone(make, size, places, chamber, one) != ruled_alone(make, size, places, chamber, other):
                return places
    return None


class Alike(unittest.TestCase):
    def check_parting(self, make, size, one, other):
        """That a PARTING and places are told; how many of the WORKS' CHAMBERS are unlike."""
        works = parting_works(make, size, one, other)
        behind, other_behind = plain_ruled(works, one), plain_ruled(works, other)
        self.assertNotEqual(behind, other_behind)
        self.assertTrue(strictly(works[0], make))
        self.assertEqual((len(works[1]), works[2]), (size, NOUGHTS))
        for chamber in works[1]:
            self.assertEqual(len(chamber), 7)
            self.assertTrue(chamber[0] is not None or chamber[2] == 0)
        self.assertIs(is_parting_works(make, size, one, other, works), True)
        self.assertIs(is_parting_works(make, size, other, one, works), True)
        # CHAMBER 0 lies at these places, and unlike things are done to it.
        places = parting_places(make, size, one, other)
        self.assertEqual(tuple(sorted(-front % size for front in oracle.fronts(works))), places)
        self.assertNotEqual(ruled_alone(make, size, places, works[1][0], one),
                            ruled_alone(make, size, places, works[1][0], other))
        return sum(ahead != own for ahead, own in zip(behind[1], other_behind[1]))

    def test_against_all_chambers(self):
        seen = {True: 0, False: 0}
        for seed in range(230):
            make, size, one, other = some_case(seed)
            is_alike = alike_rules(make, size, one, other)
            seen[is_alike] += 1
            if is_alike:
                self.assertIsNone(plain_parting(make, size, one, other, 1 if seed % 8 == 0 else 13), seed)
                self.assertEqual(answer(parting_works, make, size, one, other), NONE)
                self.assertEqual(answer(parting_places, make, size, one, other), NONE)
            else:
                self.check_parting(make, size, one, other)
                expected = plain_parting(make, size, one, other)
                self.assertEqual(parting_places(make, size, one, other), expected, seed)
            self.assertIs(alike_rules(make, size, other, one), is_alike)
        self.assertGreater(min(seen.values()), 60)

    def test_alike_ones_against_ruled(self):
        """All orders and all subsets of RULES, where they are alike, do the same to WORKS with fronts at all sets."""
        asked = 0
        for seed in range(40):
            make, size, rules, _ = some_case(seed)
            size = min(size, 5)
            subsets = [rows for long in range(len(rules) + 1) for rows in itertools.permutations(rules, long)]
            for other in subsets:
                if alike_rules(make, size, rules, other):
                    for places in place_sets(size)[1:]:
                        for chamber in list(all_chambers(places, make))[seed % 97::97]:
                            works = works_at(make, size, places, chamber)
                            self.assertEqual(ruled(works, rules), plain_ruled(works, other))
                            asked += 1
        self.assertGreater(asked, 500)

    def test_against_a_good_many_works(self):
        """What is alike does the same to WORKS with several fronts, whatever their CHAMBERS are."""
        asked = 0
        for seed in range(400):
            works = some_works(seed)
            rules = some_rules(seed, works[0])[:4]
            size = len(works[1])
            works = works[:2] + (NOUGHTS,)
            for other in (rules[::-1], rules[1:], rules[:1] + rules[2:], some_rules(seed + 9, works[0])[:4]):
                differ = plain_ruled(works, rules) != plain_ruled(works, other)
                self.assertIs(is_parting_works(works[0], size, rules, other, works), differ)
                if differ:
                    self.assertIs(alike_rules(works[0], size, rules, other), False)
                    self.check_parting(works[0], size, rules, other)
                    asked += 1
        self.assertGreater(asked, 40)

    def test_the_ledger_alone(self):
        # What is set and drawn at once leaves the CHAMBER as it was; where a SET is it is drawn by both.
        draw = (1, (("set",),), ("draw",))
        one = ((1, (("empty",),), ("set", ((0, 5),))), draw)
        for size in (3, 4, 5, 8, 12):
            self.assertIs(alike_rules(BARE, size, one, (draw,)), False)
            self.assertEqual(self.check_parting(BARE, size, one, (draw,)), 0)
            works = parting_works(BARE, size, one, (draw,))
            self.assertEqual(plain_ruled(works, one)[2][5] - plain_ruled(works, (draw,))[2][5], 5)
        for make in (BARE, BARE[:2] + (8, 10) + BARE[4:], BARE[:2] + (1, 1) + BARE[4:]):
            self.assertEqual(self.check_parting(make, 6, one, (draw,)), 0)
        # In a ring of 4 with two fronts what one CHAMBER has more another one may have less.
        two = one + ((3, (("empty",),), ("set", ((0, 5),))), (3, (("set",),), ("draw",)))
        self.check_parting(BARE, 4, one, two[2:])
        self.check_parting(BARE, 4, two, one)

    def test_another_chamber_does_not_make_up_for_it(self):
        # What CHAMBERS at 1 have more by one, those at 3 that are empty and cool have more by other, bricked up or not.
        one = ((1, (), ("set", ((0, 5),))), (1, (), ("draw",)), (3, (), ("open",)), (3, (), ("draw",)))
        other = ((1, (), ("draw",)), (3, (), ("open",)), (3, (), ("set", ((0, 5),))), (3, (), ("draw",)))
        for size in (4, 5, 12):
            self.assertEqual(self.check_parting(BARE, size, one, other), 0)
            self.assertEqual(parting_places(BARE, size, one, other), (1,))
        lone = (BARE, ((None, 0, 0, (), True, False, False), COLD, COLD, (None, 10, 0, (), False, False, False)), NOUGHTS)
        self.assertEqual(plain_ruled(lone, one), plain_ruled(lone, other))
        self.assertIs(is_parting_works(BARE, 4, one, other, lone), False)

    def test_ledger_rules_at_random(self):
        acts = [("set", ((0, 3),)), ("set", ((0, 5),)), ("draw",), ("clear",), ("open",)]
        unlike = []
        for seed in range(1200):
            numbers = Numbers(seed * 7 + 3)
            make = (((3, 1, 9),), 0, 1 + numbers.below(4), 1 + numbers.below(5), 9, 0)
            rules = tuple((numbers.one_of((0, 1, 1, 1, 2, 3, -1)), numbers.one_of(((), (("empty",),), (("set",),))),
                           numbers.one_of(acts)) for _ in range(4))
            other = tuple(rule for rule in rules if numbers.below(4))
            size = 3 + numbers.below(6)
            if not alike_rules(make, size, rules, other):
                unlike.append(self.check_parting(make, size, rules, other))
        self.assertGreater(len(unlike), 200)
        self.assertIn(0, unlike)

    def test_numbers_of_tests(self):
        """TESTS part at their numbers alone, less what was put in ahead of them."""
        for word in ("below", "from"):
            for heat in (0, 9, 10, 11, 60):
                one, other = [((2, ((word, heat + more),), ("open",)),) for more in (0, 1)]
                self.assertEqual(self.check_parting(BARE, 5, one, other), 1)
                works = parting_works(BARE, 5, one, other)
                self.assertEqual(works[1][0][1], heat)
                wood = ((2, (), ("wood", 7)),)
                if heat >= 7:
                    self.assertEqual(parting_works(BARE, 5, wood + one, wood + other)[1][0][1], heat - 7)
                else:
                    is_alike = alike_rules(BARE, 5, wood + one, wood + other)
                    self.assertIs(is_alike, True)
        for many in (0, 1, 12, 13, 60):
            one, other = [((2, (("pieces", many + more),), ("open",)),) for more in (0, 1)]
            self.check_parting(BARE, 5, one, other)
            self.assertEqual(len(parting_works(BARE, 5, one, other)[1][0][3]), many)
            coal = ((2, (), ("coal", (4, 4))),)
            self.assertIs(alike_rules(BARE, 5, coal + one, coal + other), many < 2)

    def test_a_test_or_none(self):
        for test, only in ((("below", 7), 7), (("from", 7), 0), (("pieces", 7), 0), (("pieces", 1), 0), (("below", 1), 1), (("from", 1), 0)):
            one, other = ((2, (test,), ("open",)),), ((2, (), ("open",)),)
            self.assertEqual(self.check_parting(BARE, 5, one, other), 1)
            works = parting_works(BARE, 5, one, other)
            self.assertEqual((works[1][0][1], len(works[1][0][3])), (only, test[1] if test[0] == "pieces" else 0))

    def test_several_numbers_of_pieces(self):
        for first, second in ((2, 5), (5, 2), (1, 60), (12, 13)):
            one = ((2, (("pieces", first),), ("open",)), (2, (("pieces", second),), ("damper", True)))
            for other in (((2, (("pieces", first),), ("open",)), (2, (("pieces", second + 1),), ("damper", True))),
                          ((2, (("pieces", first + 1),), ("open",)), (2, (("pieces", second),), ("damper", True)))):
                self.check_parting(BARE, 5, one, other)

    def test_a_hot_chamber_with_two_fronts(self):
        # Fed by the first RULE that reaches it, if it is hot: so it lies in a FIRE behind the front ahead of it.
        rules = tuple((place, (("from", 30), ("pieces", 1)), ("coal", (place,))) for place in (2, 5))
        self.assertEqual(self.check_parting(BARE, 8, rules, rules[::-1]), 1)
        works = parting_works(BARE, 8, rules, rules[::-1])
        self.assertEqual((parting_places(BARE, 8, rules, rules[::-1]), oracle.fronts(works)), ((2, 5), [3, 6]))
        self.assertEqual([chamber[1] >= 10 for chamber in works[1]], [True, True, True, True, False, False, True, False])

    def test_kindling_at_0_and_1(self):
        # The front has kindling, 10, or more, the one ahead of it less; a CHAMBER at 2 any heat.
        for place, bounds in ((0, (10, 11)), (1, (0, 9)), (2, ())):
            for heat in (0, 1, 9, 10, 11, 40):
                alike = alike_rules(BARE, 5, ((place, (("below", heat),), ("damper", True)),),
                                    ((place, (("below", heat + 1),), ("damper", True)),))
                reached = heat >= 10 if place == 0 else heat < 10 if place == 1 else True
                self.assertIs(alike, not reached, (place, heat))
        # Cool is 8: what is set at the front is never set; ahead of it only if it is cool.
        self.assertIs(alike_rules(BARE, 5, ((0, (), ("set", ((0, 1),))), (0, (), ("draw",)), (0, (), ("clear",))), ()), True)
        warm = BARE[:3] + (11,) + BARE[4:]
        self.assertIs(alike_rules(warm, 5, ((0, (), ("draw",)),), ()), False)
        self.assertIs(alike_rules(warm, 5, ((1, (("below", 10),), ("draw",)),), ((1, (), ("draw",)),)), True)
        self.assertIs(alike_rules(warm, 5, ((2, (("below", 10),), ("draw",)),), ((2, (), ("draw",)),)), False)

    def test_tops(self):
        # Drawn and set anew it has its heat as top; a SET of the same bricks that stays keeps its own.
        again = ((2, (("set",),), ("draw",)), (2, (("empty",),), ("set", ((0, 4),))))
        self.assertEqual(self.check_parting(BARE, 5, again, again[:1]), 1)
        # wood ahead of setting and behind it come to the same.
        wood = (2, (), ("wood", 3))
        ready = (("empty",), ("wicket", True), ("below", 5))
        green = (2, ready, ("set", ((0, 4),)))
        late = (2, ready[:2] + (("below", 8),), ("set", ((0, 4),)))
        self.assertIs(alike_rules(BARE, 5, (green, wood), (wood, late)), True)
        self.assertIs(alike_rules(BARE, 5, (green, wood), (wood, green)), False)

    def test_coal_and_doors(self):
        one = ((1, (), ("coal", (3, 5))), (1, (), ("coal", (4,))))
        self.assertIs(alike_rules(BARE, 5, one, ((1, (), ("coal", (3, 4, 5))),)), True)
        self.assertIs(alike_rules(BARE, 5, one, ((1, (), ("coal", (3, 5, 5))),)), False)
        self.assertIs(alike_rules(BARE, 5, one, one[::-1]), True)
        for word in ("damper", "screen"):
            shut, wide = (1, (), (word, False)), (1, (), (word, True))
            self.assertIs(alike_rules(BARE, 5, (shut, wide), (wide,)), True)
            self.assertIs(alike_rules(BARE, 5, (shut, wide), (shut,)), False)
        self.assertIs(alike_rules(BARE, 5, ((1, (), ("brick",)), (1, (), ("open",))), ((1, (), ("open",)),)), True)
        self.assertIs(alike_rules(BARE, 5, ((1, (), ("coal", ())), (0, (), ("wood", 0))), ()), True)

    def test_no_rules(self):
        for size in (3, 12):
            self.assertIs(alike_rules(BARE, size, (), ()), True)
            self.assertEqual(answer(parting_works, BARE, size, (), ()), NONE)
            self.assertEqual(answer(parting_places, BARE, size, (), ()), NONE)
            self.assertIs(alike_rules(BARE, size, (FILL,), ()), False)
            self.assertEqual(parting_places(BARE, size, (), (FILL,)), (1,))
            self.assertEqual(self.check_parting(BARE, size, (), (FILL,)), 1)
        self.assertEqual(needed_rules(BARE, 3, ()), ())
        self.assertIs(order_free(BARE, 3, ()), True)
        self.assertEqual(swaps_free(BARE, 3, ()), ())
        self.assertEqual(places_round((), 3), ())

    def test_a_place_named_twice_round_the_ring(self):
        for size in (3, 5, 12):
            for turns in (-1, 1):
                other = (FILL[0] + turns * size,) + FILL[1:]
                self.assertIs(alike_rules(BARE, size, (FILL,), (other,)), True)
                self.assertIs(alike_rules(BARE, size, (FILL, other), (FILL,)), True)
                self.assertEqual(needed_rules(BARE, size, (FILL, other)), (0,))
                self.assertIs(alike_rules(BARE, size + 1, (FILL,), (other,)), False)
        self.assertEqual(alike_sizes(BARE, (FILL,), ((-11,) + FILL[1:],)), (3, 4, 6, 12))
        self.assertEqual(alike_sizes(BARE, (FILL,), (FILL, FILL)), tuple(range(3, 13)))
        self.assertEqual(alike_sizes(BARE, (FILL,), ()), ())

    def test_neighbours_are_not_both_reached(self):
        # Places 1 and 2 are never those of one CHAMBER; 1 and 3 are, but in rings of 3 and 4 as they are round the ring.
        wide, shut = ((1, (), ("damper", True)), (2, (), ("damper", False)))
        self.assertEqual([alike_rules(BARE, size, (wide, shut), (shut, wide)) for size in (3, 4, 5, 12)], [True] * 4)
        far = (3,) + shut[1:]
        self.assertEqual([alike_rules(BARE, size, (wide, far), (far, wide)) for size in (3, 4, 5, 12)],
                         [True, False, False, False])
        self.assertEqual(parting_places(BARE, 5, (wide, far), (far, wide)), (1, 3))
        # 0 and size - 1 are neighbours.
        last = (-1,) + shut[1:]
        front = (0,) + wide[1:]
        self.assertEqual([alike_rules(BARE, size, (front, last), (last, front)) for size in (3, 4, 5, 12)], [True] * 4)

    def test_three_places(self):
        # Only where a CHAMBER lies at three places has it three pieces more.
        rules = tuple((place, (), ("coal", (5,))) for place in (0, 2, 4)) + ((4, (("pieces", 3),), ("open",)),)
        other = rules[:3] + ((4, (), ("open",)),)
        self.assertEqual(self.check_parting(BARE, 6, rules, other), 1)
        self.assertEqual(parting_places(BARE, 6, rules, other), (4,))
        sure = (("below", 99), ("pieces", 3))
        rules = ((2, (("pieces", 1),), ("coal", (5,))), (4, (("pieces", 1),), ("coal", (6,))), (6, (), ("damper", True)))
        self.assertEqual(parting_places(BARE, 8, rules, rules[1::-1] + rules[2:]), (2, 4))
        self.assertIs(alike_rules(BARE, 8, rules + ((6, sure, ("damper", True)),), rules), True)


class Rules(unittest.TestCase):
    def test_guarantee_in_rings_of_3(self):
        asked = 0
        for seed in range(300):
            numbers = Numbers(seed * 3 + 8)
            make = (((3, 1, 9),), 0, 1 + numbers.below(4), 1 + numbers.below(5), 9, 0)
            rules = tuple(some_rule(numbers) for _ in range(2 + numbers.below(3)))
            for number in range(len(rules) - 1):
                if (rules[number][0] - rules[number + 1][0]) % 3:
                    self.assertIn(number, swaps_free(make, 3, rules))
                    asked += 1
        self.assertGreater(asked, 100)

    def test_orders_subsets_swaps(self):
        seen = {"free": 0, "bound": 0, "fewer": 0, "all": 0}
        for seed in range(150):
            numbers = Numbers(seed * 5 + 1)
            make = (((3, 1, 9),), 0, 1 + numbers.below(4), 1 + numbers.below(5), 9, 0)
            size = 3 + numbers.below(10)
            rules = tuple(some_rule(numbers) for _ in range(1 + numbers.below(4)))
            orders = [alike_rules(make, size, order, rules) for order in itertools.permutations(rules)]
            self.assertIs(order_free(make, size, rules), all(orders))
            swaps = tuple(number for number in range(len(rules) - 1) if alike_rules(
                make, size, rules[:number] + rules[number:number + 2][::-1] + rules[number + 2:], rules))
            self.assertTrue(strictly(swaps_free(make, size, rules), swaps))
            sets = [own for long in range(len(rules) + 1) for own in itertools.combinations(range(len(rules)), long)]
            least = [own for own in sets if alike_rules(make, size, tuple(rules[k] for k in own), rules)][0]
            self.assertTrue(strictly(needed_rules(make, size, rules), least))
            rounded = tuple((place % size, when, act) for place, when, act in rules)
            self.assertTrue(strictly(places_round(rules, size), rounded))
            self.assertIs(alike_rules(make, size, rules, rounded), True)
            seen["free" if all(orders) else "bound"] += 1
            seen["fewer" if len(least) < len(rules) else "all"] += 1
        self.assertGreater(min(seen.values()), 20, seen)

    def test_sizes(self):
        for seed in range(40):
            make, _, one, other = some_case(seed)
            expected = tuple(size for size in range(3, 13) if alike_rules(make, size, one, other))
            self.assertTrue(strictly(alike_sizes(make, one, other), expected))

    def test_needed_ones_are_the_first_of_several(self):
        self.assertEqual(needed_rules(BARE, 5, (FILL, FILL, FILL)), (0,))
        self.assertEqual(needed_rules(BARE, 4, (WOOD, UNBRICK)), (0, 1))
        self.assertEqual(needed_rules(BARE, 3, (WOOD, UNBRICK)), (0,))
        self.assertEqual(needed_rules(BARE, 5, ((1, (("slag",), ("set",)), ("draw",)),)), ())

    def test_rules_of_several_kinds(self):
        make = (((3, 1, 9), (4, 1, 8)),) + BARE[1:]
        one, other = ((2, (), ("set", ((0, 4),))),), ((2, (), ("set", ((1, 4),))),)
        self.assertIs(alike_rules(make, 5, one, other), False)
        self.assertIs(is_parting_works(make, 5, one, other, parting_works(make, 5, one, other)), True)


class Judge(unittest.TestCase):
    def test_a_fire_of_all_is_no_parting(self):
        for heats in ((12, 12, 12), (0, 0, 0)):
            works = works_of(*[part(heat) for heat in heats], make=BARE)
            self.assertIs(is_parting_works(BARE, 3, (FILL, WOOD, UNBRICK), (), works), False)

    def test_things(self):
        one, other = (FILL,), ()
        works = (BARE, ((None, 12, 0, (), False, False, False), COLD, COLD), NOUGHTS)
        self.assertIs(is_parting_works(BARE, 3, one, other, works), True)
        self.assertIs(is_parting_works(BARE, 3, one, one, works), False)
        self.assertIs(is_parting_works(BARE, 4, one, other, works), False)
        make, chambers, _ = works
        other_make = BARE[:5] + (2,)
        for thing in (list(works), (list(make), chambers, NOUGHTS), (make, list(chambers), NOUGHTS),
                      (make, chambers, (1,) + NOUGHTS[1:]), (make, chambers, (False,) * 7), (make, chambers, list(NOUGHTS)),
                      (other_make, chambers, NOUGHTS), (make, chambers + (COLD,), NOUGHTS), (make, chambers[:2], NOUGHTS),
                      (make, (COLD,) * 3, NOUGHTS), (make, (chambers[0][:1] + (True,) + chambers[0][2:],) + chambers[1:], NOUGHTS),
                      None, 0, True, "", (), (works,), (make, chambers), (make, chambers, NOUGHTS[1:]),
                      (make, (chambers[0][:2] + (3,) + chambers[0][3:],) + chambers[1:], NOUGHTS),
                      (BARE[:1] + (False,) + BARE[2:], chambers, NOUGHTS)):
            self.assertIs(is_parting_works(BARE, 3, one, other, thing), False, thing)
        self.assertIs(is_parting_works(other_make, 3, one, other, (other_make, chambers, NOUGHTS)), True)
        # Where they are alike there is no PARTING at all.
        for seed in range(60):
            own = works_of(part(12), part(seed % 13, (), "w"), part(0, (3,)), make=BARE)
            self.assertIs(is_parting_works(BARE, 3, one, one + one, own), False)

    def test_lists_and_what_is_handed_in(self):
        for seed in range(30):
            make, size, one, other = some_case(seed)
            own = [listed(make), size, listed(one), listed(other)]
            before = kept(own)
            for function in (alike_rules, parting_works, parting_places):
                self.assertTrue(strictly(answer(function, *own), answer(function, make, size, one, other)))
                self.assertEqual(own, before)


class Runs(unittest.TestCase):
    def plain(self, works, one, other, many):
        rows, other_rows = oracle.rows_by(works, one, many), oracle.rows_by(works, other, many)
        return ([tick for tick in range(1, many + 1) if rows[tick] != other_rows[tick]] + [None])[0]

    def test_against_the_second_reading(self):
        found = {}
        for seed in range(260):
            if seed % 2:
                works, rules = lively_works(seed), lively_rules(seed)[:4]
                works = (works[0], works[1][:5], works[2])
            else:
                works, rules = small_works(seed), small_rules(seed, small_works(seed)[0])
            numbers = Numbers(seed)
            for other in (rules[1:], rules[::-1], rules + ((0, (("from", 20 + numbers.below(20)),), ("damper", True)),),
                          rules[:-1], rules + ((1, (("below", 1), ("pieces", 1)), ("coal", (3,))),)):
                tick = answer(first_unlike_tick, works, rules, other)
                expected = self.plain(works, rules, other, 40)
                if tick == raised("TooMany"):
                    self.assertIsNone(expected)
                    self.assertEqual(answer(alike_from, works, rules, other), tick)
                    continue
                self.assertTrue(strictly(tick if tick is None or tick <= 40 else None, expected))
                self.assertIs(alike_from(works, rules, other), tick is None)
                found[tick] = found.get(tick, 0) + 1
        self.assertGreater(found[None], 60)
        self.assertGreater(len(found), 5)

    def test_alike_rules_are_alike_from_all(self):
        for seed in range(60):
            works = small_works(seed)
            rules = small_rules(seed, works[0])
            for other in (rules[::-1], rules + rules[:1]):
                if alike_rules(works[0], len(works[1]), rules, other):
                    self.assertIn(answer(alike_from, works, rules, other), (True, raised("TooMany")))

    def test_tops_part_runs_that_are_seen_again(self):
        # By one the SET of CHAMBER 1 is drawn and set anew, by other that of 3: the same but for what tops were.
        make = (((90, 1, 90),), 0, 10, 8, 99, 2)
        hot, ware = (None, 20, 0, (), False, False, True), ((0, 5, 0),)
        works = (make, (hot, (ware, 2, 2, (), True, False, True), hot, (ware, 2, 2, (), True, False, False)), NOUGHTS)
        one, other = [((0, (), ("wood", 20)), (1, (("screen", yes), ("from", 2)), ("draw",)),
                       (1, (("empty",),), ("set", ((0, 5),))), (1, (("below", 2),), ("wood", 3))) for yes in (True, False)]
        rows = oracle.rows_by(works, one, 8)
        self.assertEqual(oracle.seen(rows[2]), oracle.seen(works))
        self.assertEqual(self.plain(works, one, other, 40), 3)
        self.assertEqual(first_unlike_tick(works, one, other), 3)
        self.assertIs(alike_from(works, one, other), False)
        # With tops that are there already from the first on they are unlike at once; with none to see, never.
        high = (make, tuple(own[:2] + (9 if own[0] else 0,) + own[3:] for own in works[1]), NOUGHTS)
        self.assertEqual(first_unlike_tick(high, one, other), 1)
        self.assertIsNone(first_unlike_tick(works, one, one))

    def test_tops_part_runs_late_in_a_round(self):
        # Heats of 1 and 3 go 3, 2, 1, 3 ..: at 2 one of them is drawn and set anew, at 1 wood raises both tops.
        make = (((90, 1, 90),), 0, 10, 8, 99, 2)
        hot, ware = (None, 20, 0, (), False, False, True), ((0, 5, 0),)
        works = (make, (hot, (ware, 3, 2, (), True, False, True), hot, (ware, 3, 2, (), True, False, False)), NOUGHTS)
        one, other = [((0, (), ("wood", 20)), (1, (("screen", yes), ("from", 2), ("below", 3)), ("draw",)),
                       (1, (("empty",),), ("set", ((0, 5),))), (1, (("below", 2),), ("wood", 5))) for yes in (True, False)]
        rows = oracle.rows_by(works, one, 8)
        self.assertEqual([oracle.seen(rows[tick]) == oracle.seen(works) for tick in (1, 2, 3)], [False, False, True])
        self.assertEqual(self.plain(works, one, other, 40), 5)
        self.assertEqual(first_unlike_tick(works, one, other), 5)

    def test_a_works_that_is_out(self):
        works = works_of(part(3, (5,), "wd"), part(2), part(), make=BARE)
        self.assertIsNone(first_unlike_tick(works, (FILL,), ()))
        self.assertIs(alike_from(works, (FILL,), ()), True)
        # A FIRE of all has no front either; this one burns down by air until it has one.
        works = works_of(part(40, (), "wd"), part(40), part(40), make=BARE)
        self.assertEqual(self.plain(works, ((0, (), ("open",)),), (), 9), 4)
        self.assertEqual(first_unlike_tick(works, ((0, (), ("open",)),), ()), 4)

    def test_too_many(self):
        make = (((900, 1, 900),), 0, 4, 4, 9000, 0)
        works = (make, ((None, 8, 0, (), False, False, True), COLD, COLD), NOUGHTS)
        pile = ((0, (), ("wood", 1)),)
        self.assertEqual(answer(first_unlike_tick, works, pile, pile), raised("TooMany"))
        self.assertEqual(answer(alike_from, works, pile, pile), raised("TooMany"))
        self.assertEqual(first_unlike_tick(works, pile, ()), 1)
        for tick, expected in ((2, 2), (4000, 4000), (4001, raised("TooMany"))):
            # Ahead of this tick tick unlike ones have come; the wood of the tick itself is put in first.
            late = pile + ((0, (("from", 8 + tick),), ("open",)),)
            self.assertEqual(answer(first_unlike_tick, works, pile, late), expected)


if __name__ == "__main__":
    unittest.main()
