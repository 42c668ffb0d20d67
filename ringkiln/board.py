"""A Board: a WORKS that MOVES change, one behind the other, and back again."""

from ringkiln.deeds import deed_done
from ringkiln.errors import NothingDone
from ringkiln.runs import fronts_in, rules_done
from ringkiln.shapes import tupled
from ringkiln.steady import works_behind_ticks
from ringkiln.ticks import ticked


def works_moved(works, rules, move):
    """The WORKS behind a MOVE, all of them tuples."""
    if move[0] == "lay":
        return deed_done(works, move[1])
    if move[0] == "go":
        return works_behind_ticks(works, rules, move[1])
    return ticked(rules_done(works, rules)[0], True)


class Board:
    """A WORKS, RULES that stay, and the line of MOVES that it has come by."""

    def __init__(self, works, rules):
        self.rules = tupled(rules)
        # The WORKS at first and behind each MOVE, and the pairs (MOVE, WORKS behind it) that are undone.
        self.rows = [tupled(works)]
        self.line = []
        self.undone = []

    def works_now(self):
        """The WORKS as it stands."""
        return self.rows[-1]

    def moves(self):
        """The line of MOVES."""
        return list(self.line)

    def do(self, move):
        """Do a MOVE."""
        own = tupled(move)
        self.rows.append(works_moved(self.rows[-1], self.rules, own))
        self.line.append(own)
        self.undone = []

    def lay(self, deed):
        """Do a DEED at once."""
        self.do(("lay", deed))

    def go(self, many):
        """Let many ticks pass."""
        self.do(("go", many))

    def undo(self):
        """Take back the last MOVE, and tell it."""
        if self.line == []:
            raise NothingDone()
        move = self.line.pop()
        self.undone.append((move, self.rows.pop()))
        return move

    def redo(self):
        """Put back the MOVE undone last, and tell it."""
        if self.undone == []:
            raise NothingDone()
        move, works = self.undone.pop()
        self.line.append(move)
        self.rows.append(works)
        return move

    def fronts_now(self):
        """The fronts, ascending."""
        return fronts_in(self.rows[-1])

    def __eq__(self, other):
        if not isinstance(other, Board):
            return False
        return self.rows[0] == other.rows[0] and self.rules == other.rules and self.line == other.line

    def __len__(self):
        return len(self.line)
