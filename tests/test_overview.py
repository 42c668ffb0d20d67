"""[1]: the main guarantees, from one end of the package to the other, and what it does not use."""

import ast
import pathlib
import subprocess
import sys
import unittest

from ringkiln.accounts import bricks_account, heat_account
from ringkiln.back import guesses_that_fit, is_misfit, misfit
from ringkiln.board import Board
from ringkiln.chambers import seen_from, turned_works
from ringkiln.fires import fires_of, is_out
from ringkiln.judge import is_so, paper, shows
from ringkiln.keeping import can_keep, death_list, is_death_list, is_kept_lot, kept_lot
from ringkiln.looks import is_looks_doubt, is_looks_plan, looks_doubt, looks_plan
from ringkiln.pairs import lone_paper, pair_paper, stay_two
from ringkiln.runs import run
from ringkiln.saving import is_save_paper, last_save, save_paper, saves_at
from ringkiln.steady import is_steady, out_paper, steady_paper
from ringkiln.stills import greatest_stills, is_killing, outlives, worst_stills
from ringkiln.texts import deeds_read, deeds_text, rules_read, rules_text, works_read, works_text
from tests.graphs import choice_graph, small_choices, small_rules, small_works
from tests.support import MODULES, answer, lively_rules, lively_works, raised, some_rules, some_works, strictly
from tests.test_back import some_play, some_unknown
from tests.test_looks import some_cases

PACKAGE = pathlib.Path(__file__).resolve().parent.parent / "ringkiln"


class Package(unittest.TestCase):
    def test_nothing_is_imported_but_the_package_and_gcd(self):
        for path in PACKAGE.glob("*.py"):
            for node in ast.walk(ast.parse(path.read_text())):
                self.assertNotIsInstance(node, ast.Import)
                if isinstance(node, ast.ImportFrom) and node.module != "math":
                    self.assertEqual(node.module.split(".")[0], "ringkiln")
                if isinstance(node, ast.ImportFrom) and node.module == "math":
                    self.assertEqual([alias.name for alias in node.names], ["gcd"])
                if isinstance(node, ast.Name):
                    self.assertNotIn(node.id, ("open", "input", "print", "id", "hash", "eval", "exec", "globals"))

    def test_no_clock_no_chance_no_files(self):
        """The same in processes of their own, whatever Python's seed for hashes is."""
        code = ("from tests.calls import CALLS\n"
                "from tests.test_calls import by_place\n"
                "print([by_place(name, values) for name in CALLS for values in CALLS[name][:1]])\n")
        told = [subprocess.run([sys.executable, "-c", code], cwd=PACKAGE.parent, capture_output=True, text=True, check=True,
                               env={"PYTHONHASHSEED": seed, "PYTHONDONTWRITEBYTECODE": "1"}).stdout for seed in ("1", "77")]
        self.assertEqual(told[0], told[1])
        self.assertGreater(len(told[0]), 1000)
        self.assertEqual(len(MODULES), 23)


class Guarantees(unittest.TestCase):
    def test_a_what_is_seen_comes_again_or_the_fire_goes_out(self):
        ways = {"steady": 0, "out": 0, "two": 0, "lone": 0}
        for seed in range(80):
            works = lively_works(seed) if seed % 2 else some_works(seed)
            rules = lively_rules(seed) if seed % 2 else some_rules(seed, works[0])
            steady = answer(is_steady, works, rules)
            if steady == raised("TooMany"):
                continue
            if steady:
                tick, long, turning = steady_paper(works, rules)
                rows = [run(works, rules, (), (), tick + times * long) for times in (0, 1, 2)]
                turned = turned_works(works, turning)
                self.assertEqual(seen_from(rows[1], turning), seen_from(rows[0], 0))
                self.assertEqual(seen_from(rows[2], turning), seen_from(rows[1], 0))
                self.assertEqual(seen_from(turned, 0), seen_from(works, turning))
                ways["steady"] += 1
            else:
                tick = out_paper(works, rules)
                self.assertTrue(is_out(run(works, rules, (), (), tick)))
                self.assertTrue(tick == 0 or not is_out(run(works, rules, (), (), tick - 1)))
                ways["out"] += 1
            if stay_two(works, rules):
                tick, long, _ = pair_paper(works, rules)
                self.assertTrue(all(len(fires_of(run(works, rules, (), (), number))) > 1 for number in range(tick + long + 1)))
                ways["two"] += 1
            else:
                self.assertLess(len(fires_of(run(works, rules, (), (), lone_paper(works, rules)))), 2)
                ways["lone"] += 1
        self.assertGreater(min(ways.values()), 3, ways)

    def test_b_the_last_tick_that_saves_choices_and_stills(self):
        saved = kept = 0
        for seed in range(180):
            works = small_works(seed)
            rules, choices = small_rules(seed, works[0]), small_choices(seed, works[0])
            if choice_graph(works, rules, choices) is None:
                continue
            last = last_save(works, rules, choices)
            if last is not None:
                for tick in range(1, last + 4):
                    self.assertIs(saves_at(works, rules, choices, tick), tick <= last)
                self.assertTrue(is_save_paper(works, rules, choices, last, save_paper(works, rules, choices)))
                saved += last > 0
            if can_keep(works, rules, choices):
                self.assertTrue(is_kept_lot(works, rules, choices, kept_lot(works, rules, choices)))
                kept += 1
            else:
                self.assertTrue(is_death_list(works, rules, choices, death_list(works, rules, choices)))
            most = greatest_stills(works, rules, 5)
            if most is None:
                self.assertFalse(outlives(works, rules, (), 5))
            elif most < 3:
                self.assertTrue(is_killing(works, rules, most + 1, 5, worst_stills(works, rules, most + 1, 5)))
                self.assertEqual(answer(worst_stills, works, rules, most, 5), raised("NoPaper"))
        self.assertGreater(min(saved, kept), 5)

    def test_c_what_fits_and_the_next_look(self):
        for seed in range(40):
            play = some_play(seed)
            unknown = some_unknown(seed, play[0])
            readings = ((0, seed % 9), (1, 0))
            if guesses_that_fit(play, unknown, readings) == ():
                self.assertTrue(is_misfit(play, unknown, readings, misfit(play, unknown, readings)))
            else:
                self.assertEqual(answer(misfit, play, unknown, readings), raised("NoPaper"))
            cases, rules, told, looks = some_cases(seed)
            plan = answer(looks_plan, cases, rules, told, looks, 2)
            if plan == raised("NoPaper"):
                plan = looks_doubt(cases, rules, told, looks, 2)
                self.assertTrue(is_looks_doubt(cases, rules, told, looks, 2, plan))
            else:
                self.assertTrue(is_looks_plan(cases, rules, told, looks, 2, plan))

    def test_d_accounts_a_judge_texts_a_board(self):
        for seed in range(40):
            play = some_play(seed)
            works, rules, told, many = play
            for first, burnt, wood, brought, taken, earthed, last in heat_account(play):
                self.assertEqual(first + burnt + wood + brought, taken + earthed + last)
            for first, laid, good, soft, slag, left in bricks_account(play):
                self.assertEqual(first + laid, good + soft + slag + left)
            claim = ("repair", works, rules, 0, 1, many)
            self.assertIs(shows(claim, paper(claim)), is_so(claim))
            self.assertTrue(strictly((works_read(works_text(works)), rules_read(rules_text(rules)),
                                      deeds_read(deeds_text(told))), (works, rules, told)))
            board = Board(works, rules)
            board.go(many)
            self.assertTrue(strictly(board.works_now(), run(works, rules, (), (), many)))
            board.undo()
            self.assertTrue(strictly(board.works_now(), works))


if __name__ == "__main__":
    unittest.main()
