"""board.py: [25]. A Board is held against runs with the same DEEDS told and the same STILLS, of a second reading."""

import unittest

from ringkiln.board import Board
from ringkiln.deeds import deed_turned
from ringkiln.runs import run
from tests import oracle
from tests.graphs import small_rules, small_works
from tests.support import (NOUGHTS, Numbers, answer, kept, listed, lively_rules, lively_works, raised, some_deed,
                           some_rules, some_works, strictly)
from tests.test_back import part, works_of

NOTHING = raised("NothingDone")
UNFIT = raised("Unfit")


def some_case(seed):
    """A small WORKS and RULES."""
    way = seed % 3
    if way == 0:
        works = some_works(seed)
        return works, some_rules(seed, works[0])
    if way == 1:
        return small_works(seed), small_rules(seed, small_works(seed)[0])
    return lively_works(seed), lively_rules(seed)


def some_move(numbers, works):
    way = numbers.below(4)
    if way == 0:
        return "go", 1 + numbers.below(3)
    if way == 1:
        return ("still",)
    number = numbers.below(len(works[1]))
    doors = (("brick", number), ("open", number), ("damper", number, numbers.below(2) == 0), ("coal", number, (3, 9)),
             ("wood", number, 1 + numbers.below(9)))
    return "lay", numbers.one_of(doors) if way == 2 else some_deed(numbers, works)


def some_board(seed, many=9):
    """A Board behind some MOVES, and the line of those that were done."""
    works, rules = some_case(seed)
    numbers = Numbers(seed * 73 + 4)
    board, line = Board(works, rules), []
    for _ in range(many):
        move = some_move(numbers, works)
        if answer(board.do, move) is None:
            line.append(move)
    return works, rules, board, line


def told_and_stills(line):
    """The (told DEEDS, STILLS, ticks) of a line of MOVES."""
    told, stills, ticks = [], [], 0
    for move in line:
        if move[0] == "lay":
            told.append((ticks + 1, move[1]))
        else:
            ticks += move[1] if move[0] == "go" else 1
            if move[0] == "still":
                stills.append(ticks)
    return tuple(told), tuple(stills), ticks


def plain_moved(works, rules, line):
    """The WORKS behind a line of MOVES by the second reading; None if one cannot be done."""
    for move in line:
        if move[0] == "lay":
            state = oracle.opened(works)
            try:
                oracle.do(state, move[1])
            except oracle.CannotBeDone:
                return None
            works = oracle.closed(state)
        else:
            for _ in range(move[1] if move[0] == "go" else 1):
                works = oracle.tick(works, rules, move[0] == "still")
    return works


class Moves(unittest.TestCase):
    def test_against_the_second_reading(self):
        seen = {"lay": 0, "go": 0, "still": 0, "unfit": 0}
        for seed in range(260):
            works, rules = some_case(seed)
            numbers = Numbers(seed * 73 + 4)
            board, line = Board(works, rules), []
            self.assertTrue(strictly(board.works_now(), works))
            for _ in range(8):
                move = some_move(numbers, works)
                expected = plain_moved(works, rules, line + [move])
                found = answer(board.do, move)
                self.assertEqual(found, None if expected is not None else UNFIT)
                if expected is not None:
                    line.append(move)
                    self.assertTrue(strictly(board.works_now(), expected))
                seen["unfit" if found else move[0]] += 1
                self.assertTrue(strictly(board.moves(), line))
                self.assertEqual(len(board), len(line))
                self.assertTrue(strictly(board.fronts_now(), tuple(oracle.fronts(board.works_now()))))
        self.assertGreater(min(seen.values()), 200, seen)

    def test_it_is_the_run_with_these_deeds_told_and_these_stills(self):
        compared = 0
        for seed in range(200):
            works, rules, board, line = some_board(seed)
            board.do(("still",))
            told, stills, ticks = told_and_stills(line + [("still",)])
            self.assertTrue(strictly(board.works_now(), run(works, rules, told, stills, ticks)))
            self.assertTrue(strictly(board.works_now(), oracle.run_told(works, rules, told, stills, ticks)[0][-1]))
            compared += len(told) > 0 and len(stills) > 1
        self.assertGreater(compared, 60)

    def test_methods_for_moves(self):
        for seed in range(60):
            works, rules = some_case(seed)
            one, other = Board(works, rules), Board(works, rules)
            self.assertIsNone(one.go(3))
            self.assertIsNone(other.do(("go", 3)))
            self.assertIsNone(one.lay(("coal", 1, (3, 5))))
            self.assertIsNone(other.do(("lay", ("coal", 1, (3, 5)))))
            self.assertIsNone(one.do(("still",)))
            other.do(["still"])
            self.assertTrue(strictly(one.moves(), [("go", 3), ("lay", ("coal", 1, (3, 5))), ("still",)]))
            self.assertTrue(strictly(other.moves(), one.moves()))
            self.assertTrue(strictly(one.works_now(), other.works_now()))

    def test_go_in_parts(self):
        for seed in range(90):
            works, rules = some_case(seed)
            for first, then in ((1, 1), (2, 5), (6, 1)):
                one, other = Board(works, rules), Board(works, rules)
                one.go(first)
                one.go(then)
                other.go(first + then)
                self.assertTrue(strictly(one.works_now(), other.works_now()))
                self.assertEqual((len(one), len(other), one == other), (2, 1, False))

    def test_go_1_and_100(self):
        for works, rules in (some_case(2), some_case(5), (works_of(part(9, (4,) * 9, "wd"), part(), part()), ())):
            for many in (1, 100):
                board = Board(works, rules)
                board.go(many)
                self.assertTrue(strictly(board.works_now(), oracle.rows_by(works, rules, many)[-1]))
                self.assertEqual(board.works_now()[2][0], works[2][0] + many)

    def test_deeds_without_end_ahead_of_a_tick(self):
        works = works_of(part(9), part(0, (), "w"), part())
        board = Board(works, ((1, (("wicket", True),), ("brick",)),))
        board.lay(("set", 1, ((0, 5),)))
        self.assertEqual(board.works_now()[1][1][0], ((0, 5, 0),))
        board.lay(("draw", 1))
        self.assertEqual(board.works_now()[2], (0, 0, 0, 0, 0, 5, 0))
        board.do(("still",))
        self.assertIs(board.works_now()[1][1][4], False)

    def test_turned(self):
        for seed in range(90):
            works, rules, board, line = some_board(seed)
            many = len(works[1])
            for by in range(1, many):
                turned = Board((works[0], works[1][-by:] + works[1][:-by], works[2]), rules)
                for move in line:
                    turned.do(("lay", deed_turned(move[1], by, many)) if move[0] == "lay" else move)
                now = board.works_now()
                self.assertTrue(strictly(turned.works_now(), (now[0], now[1][-by:] + now[1][:-by], now[2])))
                self.assertEqual(turned.fronts_now(), tuple(sorted((front + by) % many for front in board.fronts_now())))


class Undone(unittest.TestCase):
    def test_all_back_and_forth(self):
        for seed in range(120):
            works, rules, board, line = some_board(seed)
            rows = [works]
            for number in range(len(line)):
                rows.append(plain_moved(works, rules, line[:number + 1]))
            self.assertEqual(answer(board.redo), NOTHING)
            for number in range(len(line), 0, -1):
                self.assertTrue(strictly(board.undo(), line[number - 1]))
                self.assertTrue(strictly(board.works_now(), rows[number - 1]))
                self.assertTrue(strictly(board.moves(), line[:number - 1]))
                self.assertEqual(len(board), number - 1)
            self.assertEqual(answer(board.undo), NOTHING)
            self.assertTrue(strictly(board.works_now(), works))
            for number in range(len(line)):
                self.assertTrue(strictly(board.redo(), line[number]))
                self.assertTrue(strictly(board.works_now(), rows[number + 1]))
                self.assertTrue(strictly(board.moves(), line[:number + 1]))
            self.assertEqual(answer(board.redo), NOTHING)

    def test_at_random_against_two_stacks(self):
        for seed in range(150):
            works, rules = some_case(seed)
            numbers = Numbers(seed * 79 + 6)
            board, line, undone = Board(works, rules), [], []
            for _ in range(14):
                way = numbers.below(5)
                if way < 2:
                    self.assertEqual(answer(board.undo), line[-1] if line else NOTHING)
                    if line:
                        undone.append(line.pop())
                elif way == 2:
                    self.assertEqual(answer(board.redo), undone[-1] if undone else NOTHING)
                    if undone:
                        line.append(undone.pop())
                else:
                    move = some_move(numbers, works)
                    if answer(board.do, move) is None:
                        line.append(move)
                        undone = []
                self.assertTrue(strictly(board.moves(), line))
                self.assertTrue(strictly(board.works_now(), plain_moved(works, rules, line)))

    def test_what_drops_what_was_undone(self):
        works, rules = works_of(part(9), part(), part()), ()
        for move, expected in ((("go", 1), NOTHING), (("still",), NOTHING), (("lay", ("open", 1)), NOTHING),
                               (("lay", ("brick", 1)), ("go", 2)), (("lay", ("draw", 0)), ("go", 2)),
                               (("lay", ("open", 3)), ("go", 2)), (("lay", ("set", 0, ((1, 5),))), ("go", 2))):
            board = Board(works, rules)
            board.go(2)
            board.undo()
            answer(board.do, move)
            self.assertEqual(answer(board.redo), expected, move)
        # What is put back drops nothing: the one undone ahead of it is still there.
        board = Board(works, rules)
        board.go(1)
        board.go(2)
        self.assertEqual([board.undo(), board.undo(), board.redo(), board.redo()], [("go", 2), ("go", 1), ("go", 1), ("go", 2)])


class Errors(unittest.TestCase):
    def test_in_order_and_nothing_is_changed(self):
        rows = ((("set", 3, ((9, 5),)), raised("NoChamber", 3)), (("draw", -1), raised("NoChamber", -1)),
                (("set", 0, ((0, 5), (1, 5))), raised("NoKind", 1)), (("set", 0, ((0, 5), (-1, 5), (7, 1))), raised("NoKind", -1)),
                (("set", 0, ((0, 5),)), UNFIT), (("brick", 1), UNFIT), (("coal", 0, ()), UNFIT), (("wood", 0, 0), UNFIT),
                (("clear", 0), UNFIT))
        works = works_of(part(9), part(), part())
        for undone in (False, True):
            board = Board(works, ())
            board.go(2)
            board.do(("still",))
            if undone:
                board.undo()
            before = (board.works_now(), board.moves(), len(board), board.fronts_now())
            for deed, expected in rows:
                for function, own in ((board.lay, deed), (board.do, ("lay", deed)), (board.do, ["lay", listed(deed)])):
                    self.assertEqual(answer(function, own), expected)
                    self.assertTrue(strictly((board.works_now(), board.moves(), len(board), board.fronts_now()), before))
            self.assertEqual(answer(board.redo), ("still",) if undone else NOTHING)

    def test_nothing_done(self):
        board = Board(works_of(part(9), part(), part()), ())
        for _ in range(2):
            self.assertEqual(answer(board.undo), NOTHING)
            self.assertEqual(answer(board.redo), NOTHING)
            self.assertEqual((board.moves(), len(board)), ([], 0))
        board.go(1)
        self.assertEqual(answer(board.redo), NOTHING)
        self.assertEqual(board.undo(), ("go", 1))


class Objects(unittest.TestCase):
    def test_equal(self):
        works, rules = lively_works(3), lively_rules(3)
        one = Board(works, rules)
        self.assertTrue(one == Board(listed(works), listed(rules)))
        self.assertFalse(one != Board(works, rules))
        for other in (Board(works, ()), Board(works[:2] + ((1,) * 7,), rules), Board((works[0], works[1][::-1], works[2]), rules),
                      Board((works[0][:5] + (99,),) + works[1:], rules)):
            self.assertFalse(one == other)
        for other in (None, 0, "", (), [], works, (works, rules), object()):
            self.assertFalse(one == other)
            self.assertTrue(one != other)

    def test_lines_count_and_what_was_undone_does_not(self):
        works = works_of(part(9), part(), part())
        one, other = Board(works, ()), Board(works, ())
        one.go(2)
        self.assertFalse(one == other)
        other.go(1)
        other.go(1)
        # The WORKS is the same, the lines are not.
        self.assertTrue(strictly(one.works_now(), other.works_now()))
        self.assertFalse(one == other)
        other.undo()
        other.undo()
        self.assertFalse(one == other)
        one.undo()
        self.assertTrue(one == other)
        self.assertEqual((one.redo(), other.redo()), (("go", 2), ("go", 1)))
        other.undo()
        other.go(2)
        self.assertTrue(one == other)
        # The WORKS with which they began counts, not the one that stands.
        late = Board(one.works_now(), ())
        self.assertFalse(late == one)

    def test_length(self):
        board = Board(works_of(part(9), part(), part()), ())
        lengths = [len(board)]
        for move in (("go", 5), ("still",), ("lay", ("open", 1))):
            board.do(move)
            lengths.append(len(board))
        board.undo()
        self.assertEqual(lengths + [len(board)], [0, 1, 2, 3, 2])

    def test_what_is_handed_in_is_copied(self):
        for seed in range(30):
            works, rules = some_case(seed)
            own_works, own_rules = listed(works), listed(rules)
            before = kept([own_works, own_rules])
            board = Board(own_works, own_rules)
            move = ["lay", ["coal", 0, [3, 5]]]
            board.do(move)
            self.assertTrue(strictly([own_works, own_rules, move], before + [["lay", ["coal", 0, [3, 5]]]]))
            own_works[1][0][1] = 99
            own_works[2][0] = 77
            own_rules.append([0, [], ["wood", 50]])
            move[1][2].append(9)
            move.append("more")
            other = Board(works, rules)
            other.lay(("coal", 0, (3, 5)))
            self.assertTrue(board == other)
            board.go(2)
            other.go(2)
            self.assertTrue(strictly(board.works_now(), other.works_now()))
            self.assertTrue(strictly(board.moves(), [("lay", ("coal", 0, (3, 5))), ("go", 2)]))

    def test_what_is_taken_is_new(self):
        board = Board(works_of(part(9), part(), part()), ())
        board.go(1)
        line = board.moves()
        line.append(("still",))
        line[0] = None
        self.assertEqual(board.moves(), [("go", 1)])
        self.assertIsNot(board.moves(), board.moves())
        self.assertEqual(len(board), 1)

    def test_by_names(self):
        works, rules = lively_works(5), lively_rules(5)
        board = Board(rules=rules, works=works)
        board.do(move=("go", 1))
        board.lay(deed=("coal", 0, (4,)))
        board.go(many=2)
        self.assertEqual(board.moves(), [("go", 1), ("lay", ("coal", 0, (4,))), ("go", 2)])
        self.assertTrue(strictly(board.works_now(), plain_moved(works, rules, board.moves())))

    def test_fronts(self):
        for heats, fronts in (((0, 0, 0), ()), ((9, 0, 0), (0,)), ((9, 9, 9), ()), ((9, 0, 9, 0), (0, 2)), ((0, 9, 9, 0, 9), (2, 4))):
            self.assertEqual(Board(works_of(*[part(heat) for heat in heats]), ()).fronts_now(), fronts)

    def test_two_boards_have_nothing_in_common(self):
        works = works_of(part(9), part(), part())
        one, other = Board(works, ()), Board(works, ())
        one.go(1)
        self.assertEqual((len(other), other.moves(), other.works_now()), (0, [], works))


if __name__ == "__main__":
    unittest.main()
