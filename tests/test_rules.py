"""rules.py: [11], and the TESTS, ACTS and RULES of [3]."""

import itertools
import unittest

from ringkiln.rules import (acts_now, clash_of, first_unlike, is_rules, lean_rules, needless_tests, never_used, ruled,
                            run_by, used_at, with_rule, without_rule)
from tests import oracle
from tests.support import (NOUGHTS, answer, lively_rules, lively_works, raised, some_rules, some_works, strictly)

MAKE = (((20, 2, 40), (25, 1, 35)), 5, 10, 8, 60, 0)
WARE = ((0, 5, 3),)


def part(load=None, heat=0, top=0, coal=(), doors=""):
    return load, heat, top, coal, "w" in doors, "d" in doors, "s" in doors


def works_of(*chambers):
    return MAKE, chambers, NOUGHTS


def plain_acts(works, rules):
    """The pair (DEEDS that RULES do, the WORKS behind them), by the second reading."""
    state = oracle.opened(works)
    return oracle.obey(state, rules), oracle.closed(state)


def plain_uses(works, rules, many):
    """Tick by tick the set of the numbers of RULES that are used, each RULE asked by itself."""
    rows = []
    for row in oracle.rows_by(works, rules, many)[:many]:
        # One RULE more does just what the DEEDS have more; FIRES are looked at ahead of all of them.
        done = [len(plain_acts(row, rules[:number])[0]) for number in range(len(rules) + 1)]
        rows.append({number for number in range(len(rules)) if done[number] < done[number + 1]})
    return rows


def cases(seeds):
    for seed in seeds:
        works = some_works(seed)
        yield works, some_rules(seed, works[0])
        yield lively_works(seed), lively_rules(seed)


class Shapes(unittest.TestCase):
    def test_rules(self):
        rows = [(), ((0, (), ("draw",)),), ((-12, (("empty",), ("set",), ("slag",)), ("clear",)),),
                ((7, (("below", 0), ("from", 3), ("pieces", 0)), ("brick",)), (0, (), ("open",))),
                ((1, (("wicket", True), ("damper", False), ("screen", True)), ("damper", True)),),
                ((1, (), ("screen", False)),), ((1, (), ("coal", ())),), ((1, (), ("coal", (3, 3, 4))),),
                ((1, (), ("wood", 0)),), ((1, (), ("set", ((0, 1), (1, 5), (0, 1)))),), ((10 ** 30, (), ("draw",)),)]
        for thing in rows:
            self.assertIs(is_rules(MAKE, thing), True, thing)
            self.assertIs(is_rules([[list(kind) for kind in MAKE[0]]] + list(MAKE[1:]), thing), True)

    def test_no_rules(self):
        good = (0, (("set",),), ("draw",))
        rows = [None, True, 0, "", "draw", [], [good], good, (list(good),), (good[:2],), (good + (1,),), (None,), ((),),
                ((True, (), ("draw",)),), ((None, (), ("draw",)),), (("0", (), ("draw",)),), ((0, [], ("draw",)),),
                ((0, None, ("draw",)),), ((0, ("set",), ("draw",)),), ((0, ((),), ("draw",)),), (good, None)]
        tests = [("set", 1), ("empty", None), ("below",), ("below", -1), ("below", True), ("below", 1, 1), ("from", None),
                 ("from", "1"), ("pieces", -1), ("pieces", False), ("wicket",), ("wicket", 1), ("wicket", None),
                 ("damper", 0), ("screen", "yes"), ("loud",), ("loud", 1), ["set"], "set", None, 3, ("draw",),
                 (("set",),), (["set"],), (None, 1), ([], 1)]
        acts = [None, (), "draw", ["draw"], ("draw", 1), ("clear", True), ("brick", ()), ("open", True), ("damper",),
                ("damper", 1), ("damper", None), ("screen", 0), ("screen", True, True), ("coal",), ("coal", [3]),
                ("coal", (3, 2)), ("coal", (0,)), ("coal", (True,)), ("coal", 3), ("wood",), ("wood", -1), ("wood", True),
                ("wood", (3,)), ("set",), ("set", ()), ("set", ((0, 0),)), ("set", ((0,),)), ("set", ([0, 1],)),
                ("set", ((2, 1),)), ("set", ((0, 1), (9, 1))), ("set", ((-1, 1),)), ("set", ((False, 1),)),
                ("set", ((0, 1, 0),)), ("set", [(0, 1)]), ("draw", 0), ("empty",), ("loud",), (("draw",),), ([], ())]
        rows += [((0, (test,), ("draw",)),) for test in tests] + [((0, (("set",), test), ("draw",)),) for test in tests]
        rows += [((0, (), act),) for act in acts] + [(good, (0, (), act)) for act in acts]
        for thing in rows:
            self.assertIs(is_rules(MAKE, thing), False, thing)

    def test_kinds_of_the_make(self):
        thing = ((0, (), ("set", ((1, 5),))),)
        self.assertIs(is_rules(MAKE, thing), True)
        self.assertIs(is_rules((MAKE[0][:1],) + MAKE[1:], thing), False)


class OneTick(unittest.TestCase):
    def test_acts_and_what_stands_behind_them(self):
        done = 0
        for works, rules in cases(range(300)):
            deeds, behind = plain_acts(works, rules)
            done += deeds != []
            self.assertTrue(strictly(acts_now(works, rules), deeds))
            self.assertTrue(strictly(ruled(works, rules), behind))
        self.assertGreater(done, 150)

    def test_a_works_without_a_front_does_nothing(self):
        rules = ((0, (), ("open",)), (1, (), ("wood", 9)))
        for heat in (0, 9, 10, 60):
            works = works_of(part(heat=heat), part(heat=heat), part(heat=heat))
            self.assertEqual((acts_now(works, rules), ruled(works, rules)), ([], works))
            self.assertEqual(used_at(works, rules, 5, 0), ())
            self.assertEqual(never_used(works, rules, 5), (0, 1))
            self.assertEqual(run_by(works, rules, 5), run_by(works, (), 5))

    def test_rules_behind_a_rule_see_what_it_did(self):
        works = works_of(part(heat=20), part(WARE, 5, 5, (), "w"), part())
        rules = ((1, (), ("draw",)), (1, (("empty",),), ("set", ((0, 8),))), (1, (("set",),), ("brick",)))
        self.assertEqual(acts_now(works, rules), [("draw", 1), ("set", 1, ((0, 8),)), ("brick", 1)])
        self.assertEqual(acts_now(works, rules[1:]), [("brick", 1)])
        self.assertEqual(acts_now(works, rules[::-1]), [("brick", 1)])

    def test_rule_by_rule_and_fronts_ascending(self):
        works = works_of(part(heat=20), part(), part(heat=20), part())
        rules = ((-1, (), ("open",)), (1, (), ("damper", True)))
        self.assertEqual(acts_now(works, rules), [("open", 3), ("open", 1), ("damper", 1, True), ("damper", 3, True)])


class Runs(unittest.TestCase):
    def test_run_by(self):
        for works, rules in cases(range(120)):
            for many in (0, 1, 7):
                self.assertTrue(strictly(run_by(works, rules, many), oracle.rows_by(works, rules, many)[-1]))

    def test_used(self):
        used = unused = 0
        for works, rules in cases(range(150)):
            rows = plain_uses(works, rules, 6)
            for number in range(len(rules)):
                ticks = tuple(tick + 1 for tick, row in enumerate(rows) if number in row)
                self.assertEqual(used_at(works, rules, 6, number), ticks)
                used += ticks != ()
            never = tuple(number for number in range(len(rules)) if not any(number in row for row in rows))
            self.assertEqual(never_used(works, rules, 6), never)
            unused += len(never)
            self.assertEqual(never_used(works, rules, 0), tuple(range(len(rules))))
        self.assertGreater(used, 200)
        self.assertGreater(unused, 100)

    def test_a_rule_that_is_never_used_may_be_left_out(self):
        for works, rules in cases(range(120)):
            for number in never_used(works, rules, 6):
                self.assertEqual(run_by(works, without_rule(rules, number), 6), run_by(works, rules, 6))
                self.assertIsNone(first_unlike(works, rules, without_rule(rules, number), 6))
            kept = tuple(rule for number, rule in enumerate(rules) if number not in never_used(works, rules, 6))
            self.assertIsNone(first_unlike(works, rules, kept, 6))

    def test_used_in_a_tick_in_which_it_does_it_at_one_front_of_two(self):
        works = works_of(part(heat=20, coal=(3,)), part(), part(heat=20), part())
        rules = ((0, (("pieces", 1),), ("coal", (5,))), (0, (("pieces", 9),), ("clear",)))
        self.assertEqual((used_at(works, rules, 4, 0), used_at(works, rules, 4, 1)), ((1,), ()))

    def test_no_rule(self):
        works = works_of(part(heat=20), part(), part())
        rules = ((0, (), ("open",)), (0, (), ("brick",)))
        for number in (-1, 2, 99):
            for function in (used_at, needless_tests):
                self.assertEqual(answer(function, works, rules, 3, number), raised("NoRule", number))
            self.assertEqual(answer(without_rule, rules, number), raised("NoRule", number))
        self.assertEqual(answer(used_at, works, (), 3, 0), raised("NoRule", 0))


class Changed(unittest.TestCase):
    RULES = ((0, (), ("open",)), (1, (("set",),), ("draw",)), (2, (), ("wood", 3)))

    def test_without(self):
        for number in range(3):
            expected = tuple(rule for place, rule in enumerate(self.RULES) if place != number)
            self.assertEqual(without_rule(self.RULES, number), expected)
        self.assertEqual(without_rule(self.RULES[:1], 0), ())

    def test_with(self):
        rule = (5, (("from", 2),), ("clear",))
        for number in range(4):
            found = with_rule(self.RULES, number, rule)
            self.assertEqual(found, self.RULES[:number] + (rule,) + self.RULES[number:])
            self.assertEqual(found[number], rule)
            self.assertEqual(without_rule(found, number), self.RULES)
        self.assertEqual(with_rule((), 0, rule), (rule,))
        for number in (-1, 4):
            self.assertEqual(answer(with_rule, self.RULES, number, rule), raised("NoRule", number))


def plain_clash(works, rules, many):
    """clash_of, from what each RULE does when it stands behind those ahead of it."""
    for before, row in enumerate(oracle.rows_by(works, rules, many)[:many]):
        done = []
        for number in range(len(rules)):
            ahead = len(plain_acts(row, rules[:number])[0])
            done += [(number, deed) for deed in plain_acts(row, rules[:number + 1])[0][ahead:]]
        found = []
        for (number, one), (later, other) in itertools.combinations(done, 2):
            words = {one[0], other[0]}
            if one[1] == other[1] and words in ({"brick", "open"}, {"damper"}, {"screen"}):
                found.append((before + 1, number, later))
        if found:
            return min(found)
    return None


class Clashes(unittest.TestCase):
    def test_what_clashes(self):
        works = works_of(part(heat=20, doors="w"), part(WARE, 5, 5, (), "w"), part())
        rows = [((("brick",), ("open",)), (1, 0, 1)), ((("damper", True), ("damper", False)), (1, 0, 1)),
                ((("screen", True), ("screen", False)), (1, 0, 1)), ((("brick",), ("draw",)), None),
                ((("draw",), ("set", ((0, 1),))), None), ((("coal", (3,)), ("coal", (4,))), None),
                ((("wood", 1), ("wood", 1)), None), ((("brick",), ("damper", True)), None),
                ((("damper", True), ("screen", True)), None), ((("brick",), ("brick",)), None),
                ((("coal", (3,)), ("brick",), ("damper", True), ("open",), ("damper", False)), (1, 1, 3)),
                ((("brick",), ("open",), ("brick",)), (1, 0, 1))]
        for acts, expected in rows:
            self.assertEqual(clash_of(works, tuple((1, (), act) for act in acts), 1), expected, acts)
        # At unlike CHAMBERS nothing clashes.
        self.assertIsNone(clash_of(works, ((1, (), ("brick",)), (2, (), ("open",))), 1))
        # What is passed over does not clash.
        self.assertIsNone(clash_of(works, ((1, (), ("brick",)), (1, (("empty",),), ("open",))), 1))
        self.assertIsNone(clash_of(works, ((1, (), ("brick",)), (1, (), ("open",))), 0))

    def test_the_same_chamber_from_two_fronts(self):
        works = works_of(part(heat=20), part(), part(heat=20), part())
        self.assertEqual(clash_of(works, ((1, (), ("open",)), (-1, (), ("brick",))), 3), (1, 0, 1))
        self.assertEqual(clash_of(works, ((1, (), ("damper", True)), (-1, (), ("damper", False))), 3), (1, 0, 1))

    def test_the_least_of_all(self):
        found = {}
        for works, rules in cases(range(400)):
            expected = plain_clash(works, rules, 4)
            self.assertEqual(clash_of(works, rules, 4), expected)
            found[expected] = True
        self.assertGreater(len(found), 3)
        late = works_of(part(heat=20, doors="wd"), part(), part())
        flip = ((0, (("below", 19),), ("damper", False)), (0, (("below", 19),), ("damper", True)))
        self.assertEqual(clash_of(late, flip, 5), (2, 0, 1))


class Unlike(unittest.TestCase):
    def test_first_unlike(self):
        unlike = 0
        for works, rules in cases(range(150)):
            for other in ((), rules[::-1], rules[1:], lively_rules(3)):
                rows = zip(oracle.rows_by(works, rules, 6), oracle.rows_by(works, other, 6))
                expected = next((tick for tick, (one, two) in enumerate(rows) if one != two), None)
                self.assertEqual(first_unlike(works, rules, other, 6), expected)
                unlike += expected is not None
        self.assertGreater(unlike, 100)

    def test_tops_and_ledger_too(self):
        # Drawn and set again in one tick: only the LEDGER tells.
        works = works_of(part(heat=20), part(((0, 5, 0),), 5, 5, (), "w"), part())
        again = ((1, (), ("draw",)), (1, (), ("set", ((0, 5),))))
        self.assertEqual(first_unlike(works, again, (), 3), 1)
        topped = works_of(part(heat=20), part(((0, 5, 0),), 5, 9, (), "w"), part())
        self.assertEqual(run_by(topped, again, 1)[1][1][2], 5)
        self.assertEqual(first_unlike(works, (), (), 9), None)

    def test_lean_rules(self):
        sizes = set()
        for works, rules in cases(range(150)):
            rules = rules[:4]
            rows = oracle.rows_by(works, rules, 5)
            sets = [numbers for size in range(len(rules) + 1) for numbers in itertools.combinations(range(len(rules)), size)
                    if oracle.rows_by(works, tuple(rules[number] for number in numbers), 5) == rows]
            self.assertEqual(lean_rules(works, rules, 5), sets[0])
            self.assertEqual(lean_rules(works, rules, 0), ())
            sizes.add(len(sets[0]))
        self.assertGreaterEqual(sizes, {0, 1, 2})

    def test_lean_rules_take_the_fewest_and_then_the_least(self):
        works = works_of(part(heat=20), part(), part())
        fill = (0, (("pieces", 1),), ("coal", (5,)))
        self.assertEqual(lean_rules(works, (fill, fill), 5), (0,))
        self.assertEqual(lean_rules(works, ((0, (), ("brick",)), fill, fill), 5), (1,))
        self.assertEqual(lean_rules(works, (), 5), ())
        self.assertEqual(lean_rules(works, ((0, (), ("brick",)),), 5), ())

    def test_needless_tests(self):
        needless = needed = 0
        for works, rules in cases(range(150)):
            rows = oracle.rows_by(works, rules, 5)
            for number, (place, when, act) in enumerate(rules):
                expected = tuple(
                    test for test in range(len(when)) if oracle.rows_by(
                        works, rules[:number] + ((place, when[:test] + when[test + 1:], act),) + rules[number + 1:],
                        5) == rows)
                self.assertEqual(needless_tests(works, rules, 5, number), expected)
                needless += len(expected)
                needed += len(when) - len(expected)
        self.assertGreater(needless, 50)
        self.assertGreater(needed, 30)

    def test_each_test_alone(self):
        works = works_of(part(heat=20), part(), part())
        rules = ((0, (("empty",), ("pieces", 0), ("pieces", 0)), ("coal", (5,))),)
        # Either of the two bars it, so either may go, but not both.
        self.assertEqual(needless_tests(works, rules, 5, 0), (0, 1, 2))


if __name__ == "__main__":
    unittest.main()
