"""desk.py: [25]. Requests are held against patterns, replies against what a Board by itself does."""

import re
import unittest

from ringkiln.board import Board
from ringkiln.desk import deed_in, is_request, replies
from tests.support import Numbers, answer, kept, listed, raised, strictly
from tests.test_back import part, works_of
from tests.test_board import some_case

NUMBER, POSITIVE = r"(?:0|[1-9][0-9]{0,12})", r"[1-9][0-9]{0,12}"
PATTERN = re.compile(f"set {NUMBER}(?: {NUMBER} {POSITIVE})+|(?:draw|clear|brick|open|heat) {NUMBER}|(?:damper|screen) {NUMBER} "
                     f"(?:yes|no)|coal {NUMBER}(?: {POSITIVE})+|wood {NUMBER} {POSITIVE}|go (?:[1-9][0-9]?|100)|still|undo|redo|fronts")
SIGNS = [chr(sign) for sign in range(32, 127) if chr(sign) != "%"]


def is_plain_request(line):
    if not PATTERN.fullmatch(line):
        return False
    words = line.split(" ")
    strengths = [int(word) for word in words[2:]] if words[0] == "coal" else []
    return strengths == sorted(strengths)


def some_request(numbers, many):
    number = numbers.below(many + 1)
    lines = ("fronts", "still", "undo", "undo", "redo", "redo", f"go {1 + numbers.below(3)}", f"heat {number}", f"draw {number}",
             f"clear {number}", f"brick {number}", f"open {number}", f"damper {number} yes", f"screen {number} no",
             f"coal {number} 3 3 9", f"wood {number} {1 + numbers.below(20)}", f"set {number} {numbers.below(3)} 5 0 1")
    return numbers.one_of(lines)


def plain_reply(board, line):
    """The reply of a Board that is asked by hand."""
    word, *rest = line.split(" ")
    if word == "fronts":
        return " ".join(map(str, board.fronts_now())) or "-"
    if word == "heat":
        chambers = board.works_now()[1]
        return str(chambers[int(rest[0])][1]) if int(rest[0]) < len(chambers) else "no NoChamber"
    if word in ("undo", "redo"):
        found = answer(board.undo if word == "undo" else board.redo)
        return "no NothingDone" if found == raised("NothingDone") else "done"
    if word == "go":
        found = board.go(int(rest[0]))
    elif word == "still":
        found = board.do(("still",))
    else:
        numbers = [int(own) if own.isdigit() else own == "yes" for own in rest]
        deed = (word, *numbers)
        if word == "set":
            deed = (word, numbers[0], tuple(zip(numbers[1::2], numbers[2::2])))
        if word == "coal":
            deed = (word, numbers[0], tuple(numbers[1:]))
        found = answer(board.lay, deed)
    return "done" if found is None else "no " + found[1]


class Requests(unittest.TestCase):
    def test_by_hand(self):
        for line in ("set 0 0 1", "set 3 1 5 0 60", "set 9999999999999 9999999999999 9999999999999", "draw 0", "clear 12", "brick 7", "open 10",
                     "damper 0 yes", "damper 0 no", "screen 5 yes", "screen 5 no", "coal 0 1", "coal 0 1 1 5", "coal 4 9 10", "wood 0 1",
                     "wood 99 200", "go 1", "go 99", "go 100", "still", "undo", "redo", "fronts", "heat 0", "heat 9999999999999"):
            self.assertIs(is_request(line), True, line)
        for line in ("", " ", "set", "set 0", "set 0 0", "set 0 0 0", "set 0 0 1 1", "set 0 0 1 1 0", "set 0 | 0 1", "set 00 0 1", "set 0 00 1", "set -1 0 1",
                     "set 0 -1 1", "set 10000000000000 0 1", "set 0 0 10000000000000", "draw", "draw 0 0", "draw 00", "draw 01", "draw -1", "draw x",
                     "draw +1", "draw 1.0", "draw 1_0", "draw 10000000000000", "draw 0 ", " draw 0", "draw  0", "Draw 0", "draw0", "draw\t0",
                     "damper 0", "damper yes", "damper 0 Yes", "damper 0 true", "damper 0 yes no", "screen 0 1", "coal 0", "coal 0 0", "coal 0 5 4",
                     "coal 0 10 9", "coal 0 -", "coal 0 5,6", "coal", "wood 0", "wood 0 0", "wood 0 1 2", "wood 0 -1", "go", "go 0", "go 101",
                     "go 01", "go 1000", "go -1", "go 1 1", "go 10000000000000", "still 1", "still ", "undo 1", "redo 0", "fronts 0", "heat", "heat 0 0", "heat x",
                     "heat -0", "lay draw 0", "loud", "still\n", "draw 0\n", "\nundo", "undo\nredo", "heat 1\n2", "go 5\n", "heat \u0661", "heat \u00b2",
                     "go \u0665", "coal 0 \u0661", "wood 0 \uff11", "undo\u00a0", "\u0161till", "heat 1\r", "yes", "no"):
            self.assertIs(is_request(line), False, line)

    def test_bent_lines(self):
        found = 0
        for seed in range(900):
            numbers = Numbers(seed)
            line = some_request(numbers, 12)
            self.assertIs(is_request(line), True)
            for _ in range(20):
                at = numbers.below(len(line) + 1)
                sign = numbers.one_of(SIGNS + ["\n", " ", "0", "1", "5"] * 9)
                way = numbers.below(3)
                bent = line[:at] + line[at + 1:] if way == 0 else line[:at] + sign + line[at + (way == 1):]
                self.assertIs(is_request(bent), is_plain_request(bent), bent)
                found += is_plain_request(bent)
        self.assertGreater(found, 500)


class Replies(unittest.TestCase):
    def test_against_a_board_by_itself(self):
        seen = {}
        for seed in range(220):
            works, rules = some_case(seed)
            numbers = Numbers(seed * 83 + 1)
            lines = [some_request(numbers, len(works[1])) for _ in range(1 + numbers.below(14))]
            board = Board(works, rules)
            expected = [plain_reply(board, line) for line in lines]
            self.assertTrue(strictly(replies(works, rules, "\n".join(lines)), expected))
            for told in expected:
                seen[told] = seen.get(told, 0) + 1
        for told in ("done", "-", "0", "no Unfit", "no NoChamber", "no NoKind", "no NothingDone"):
            self.assertGreater(seen.get(told, 0), 10, told)
        self.assertTrue(any(" " in told and told[:2] != "no" for told in seen))

    def test_no_lines(self):
        for seed in (1, 2, 3):
            self.assertEqual(replies(*some_case(seed), ""), [])

    def test_bad_lines_ahead_of_all_else(self):
        works, rules = some_case(4)
        for text, line in (("\n", 0), ("undo\n", 1), ("\nundo", 0), ("undo\n\nundo", 1), ("loud", 0), ("heat 99\nundo\ngo 0\nloud", 2),
                           ("fronts\nfronts ", 1), ("fronts\n" * 59 + "x", 59)):
            self.assertEqual(answer(replies, works, rules, text), raised("BadLine", line))
            # Whatever the WORKS is.
            self.assertEqual(answer(replies, None, None, text), raised("BadLine", line))

    def test_what_raises_changes_nothing(self):
        works = works_of(part(9), part(0, (), "w"), part())
        text = "go 1\nundo\ndraw 0\nset 1 9 1\nbrick 7\nheat 7\nredo\nredo\nheat 0"
        self.assertEqual(replies(works, (), text),
                         ["done", "done", "no Unfit", "no NoKind", "no NoChamber", "no NoChamber", "done", "no NothingDone", "9"])
        # NoChamber ahead of NoKind ahead of Unfit.
        self.assertEqual(replies(works, (), "set 3 9 1\nset 0 9 1\nset 0 0 1\nset 1 0 1\nset 1 0 1"),
                         ["no NoChamber", "no NoKind", "no Unfit", "done", "no Unfit"])

    def test_each_request_does_its_move(self):
        works = works_of(part(0, (), "w", ((0, 5, 9),)), part(0, (), "w", 6), part(9, (), "s"))
        text = "draw 0\nclear 1\nbrick 0\nopen 2\ndamper 1 yes\nscreen 2 no\ncoal 2 3 8\nwood 1 7\nset 1 0 4 0 2\nstill\ngo 2\nfronts\nheat 1"
        board = Board(works, ())
        for move in (("lay", ("draw", 0)), ("lay", ("clear", 1)), ("lay", ("brick", 0)), ("lay", ("open", 2)), ("lay", ("damper", 1, True)),
                     ("lay", ("screen", 2, False)), ("lay", ("coal", 2, (3, 8))), ("lay", ("wood", 1, 7))):
            board.do(move)
        # 7 is not below cool, 4.
        self.assertEqual(answer(board.lay, ("set", 1, ((0, 4), (0, 2)))), raised("Unfit"))
        board.do(("still",))
        board.go(2)
        fronts = " ".join(map(str, board.fronts_now())) or "-"
        self.assertEqual(replies(works, (), text),
                         ["done"] * 8 + ["no Unfit", "done", "done", fronts, str(board.works_now()[1][1][1])])

    def test_the_deed_of_a_request(self):
        for line, deed in (("set 1 0 4", ("set", 1, ((0, 4),))), ("set 12 0 4 2 6 3 9", ("set", 12, ((0, 4), (2, 6), (3, 9)))),
                           ("coal 3 5 6 6", ("coal", 3, (5, 6, 6))), ("wood 2 9", ("wood", 2, 9)), ("draw 4", ("draw", 4)),
                           ("damper 1 yes", ("damper", 1, True)), ("screen 0 no", ("screen", 0, False)), ("open 10", ("open", 10))):
            self.assertTrue(strictly(deed_in(line.split(" ")), deed))

    def test_a_new_board_each_time_and_new_lists(self):
        works, rules = some_case(7)
        first = replies(works, rules, "wood 0 30\nheat 0\nundo\nundo")
        first.append("more")
        self.assertEqual(replies(works, rules, "wood 0 30\nheat 0\nundo\nundo"), first[:-1])
        own = [listed(works), listed(rules)]
        before = kept(own)
        self.assertEqual(replies(own[0], own[1], "wood 0 30\nheat 0\nundo\nundo"), first[:-1])
        self.assertEqual(own, before)


if __name__ == "__main__":
    unittest.main()
