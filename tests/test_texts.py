"""texts.py: [24]. Texts are written by a second hand, and lines held against patterns of their own."""

import re
import unittest

from ringkiln.chambers import is_works
from ringkiln.deeds import is_told
from ringkiln.rules import is_rules
from ringkiln.texts import deeds_read, deeds_text, rules_read, rules_text, works_read, works_text
from tests.support import (NOUGHTS, SHUT, Numbers, answer, listed, lively_rules, lively_works, raised, some_rules,
                           some_told, some_works, strictly)

MANY_KINDS = (((1, 1, 9),) * 99,)
SIGNS = [chr(sign) for sign in range(32, 127) if chr(sign) != "%"]

# A second reading of the lines, by patterns; then numbers are looked at by hand.
N, INT = r"(?:0|[1-9][0-9]*)", r"(?:0|-?[1-9][0-9]*)"
YES = "(?:yes|no)"
PILE = f"(?:-|{N}(?:,{N})*)"
TEST = f"(?:empty|set|slag|(?:below|from|pieces) {N}|(?:wicket|damper|screen) {YES})"
ACT = f"(?:draw|clear|brick|open|(?:damper|screen) {YES}|coal {PILE}|wood {N}|set(?: \\| {N} {N})+)"
RULE = re.compile(f"rule {INT}(?: if {TEST}(?: and {TEST})*)? do {ACT}")
DEED = re.compile(f"at {N} {N} {ACT}")
MAKE = re.compile(f"make {N} {N} {N} {N} {N}")
KIND = re.compile(f"kind {N} {N} {N}")
CHAMBER = re.compile(f"chamber {N} {N} {YES} {YES} {YES} {PILE} (?:empty|slag {N}|set(?: \\| {N} {N} {N})+)")
LEDGER = re.compile(f"ledger(?: {N}){{7}}")


def is_pile_word(word):
    row = [] if word == "-" else [int(own) for own in word.split(",")]
    return 0 not in row and row == sorted(row)


def act_is_right(act):
    words = act.split(" ")
    if words[0] == "coal":
        return is_pile_word(words[1])
    return words[0] != "set" or all(int(count) > 0 for count in words[3::3])


def rule_is_right(line):
    return bool(RULE.fullmatch(line)) and act_is_right(line.split(" do ")[1])


def deed_is_right(line, last):
    """Whether a line of told DEEDS is right behind one of this tick."""
    if not DEED.fullmatch(line):
        return False
    _, tick, _, act = line.split(" ", 3)
    return int(tick) >= max(1, last) and act_is_right(act)


def chamber_is_right(line, kinds):
    if not CHAMBER.fullmatch(line):
        return False
    words = line.split(" ")
    if not is_pile_word(words[6]) or words[7] == "empty" and words[2] != "0" or words[7] == "slag" and words[8] == "0":
        return False
    return words[7] != "set" or all(int(kind) < kinds and int(count) > 0 for kind, count in zip(words[9::4], words[10::4]))


def first_wrong_of_works(text):
    """The first line that is not right, by patterns; None if all are."""
    lines = text.split("\n") if text else []
    kinds = chambers = 0
    for at, line in enumerate(lines):
        words = line.split(" ")
        if at == 0:
            is_right = MAKE.fullmatch(line) and all(int(own) for own in words[2:5]) and words[5] != "1"
        elif at == 1 or words[0] == "kind" and chambers == 0:
            is_right = KIND.fullmatch(line) and 1 <= int(words[1]) <= int(words[3]) and int(words[2]) >= 1
            kinds += 1
        elif words[0] == "ledger" and LEDGER.fullmatch(line) and chambers >= 3:
            return None if at + 1 == len(lines) else at + 1
        else:
            is_right = chamber_is_right(line, kinds)
            chambers += 1
        if not is_right:
            return at
    return len(lines)


def first_wrong_of_rules(text):
    for at, line in enumerate(text.split("\n") if text else []):
        if not rule_is_right(line):
            return at
    return None


def first_wrong_of_deeds(text):
    last = 1
    for at, line in enumerate(text.split("\n") if text else []):
        if not deed_is_right(line, last):
            return at
        last = int(line.split(" ")[1])
    return None


KINDS_OF_TEXT = ((works_read, works_text, first_wrong_of_works, is_works),
                 (rules_read, rules_text, first_wrong_of_rules, lambda thing: is_rules(MANY_KINDS, thing)),
                 (deeds_read, deeds_text, first_wrong_of_deeds, is_told))


def bad(line):
    return raised("BadLine", line)


def some_texts(many):
    """Triples of a WORKS, RULES and told DEEDS."""
    for seed in range(many):
        works = lively_works(seed) if seed % 3 == 0 else some_works(seed)
        rules = lively_rules(seed) if seed % 4 == 0 else some_rules(seed, works[0])
        yield works, rules, some_told(seed, works, 9)


def bent_texts(text, numbers, many):
    """The text with one sign taken away, put in, or another one."""
    for _ in range(many):
        at = numbers.below(len(text) + 1)
        sign = numbers.one_of(SIGNS + ["\n", " ", "0", "1", "-", ",", "|"] * 6)
        way = numbers.below(3)
        yield text[:at] + text[at + 1:] if way == 0 else text[:at] + sign + text[at + (way == 1):]


class Written(unittest.TestCase):
    def test_works(self):
        make = (((20, 2, 40), (5, 1, 5)), 7, 10, 11, 50, 0)
        chambers = ((None, 30, 0, (3, 3, 18), True, False, True), (((0, 5, 0), (1, 60, 3)), 12, 41, (), False, True, False),
                    (77, 0, 5, (1,), False, False, False))
        text = ("make 7 10 11 50 0\nkind 20 2 40\nkind 5 1 5\nchamber 30 0 yes no yes 3,3,18 empty\n"
                "chamber 12 41 no yes no - set | 0 5 0 | 1 60 3\nchamber 0 5 no no no 1 slag 77\nledger 1 2 3 4 5 6 7")
        works = (make, chambers, (1, 2, 3, 4, 5, 6, 7))
        self.assertEqual(works_text(works), text)
        self.assertTrue(strictly(works_read(text), works))

    def test_rules(self):
        rows = (((0, (), ("draw",)), "rule 0 do draw"), ((-12, (("empty",),), ("clear",)), "rule -12 if empty do clear"),
                ((3, (("set",), ("slag",)), ("brick",)), "rule 3 if set and slag do brick"),
                ((3, (("below", 0), ("from", 60), ("pieces", 2)), ("open",)), "rule 3 if below 0 and from 60 and pieces 2 do open"),
                ((1, (("wicket", True), ("damper", False), ("screen", True)), ("damper", False)),
                 "rule 1 if wicket yes and damper no and screen yes do damper no"),
                ((1, (), ("screen", True)), "rule 1 do screen yes"), ((1, (), ("coal", ())), "rule 1 do coal -"),
                ((1, (), ("coal", (5,))), "rule 1 do coal 5"), ((1, (), ("coal", (5, 5, 9))), "rule 1 do coal 5,5,9"),
                ((1, (), ("wood", 0)), "rule 1 do wood 0"), ((1, (), ("set", ((7, 5), (0, 1)))), "rule 1 do set | 7 5 | 0 1"))
        for rule, line in rows:
            self.assertEqual(rules_text((rule,)), line)
            self.assertTrue(strictly(rules_read(line), (rule,)))
        self.assertEqual(rules_text([rule for rule, _ in rows]), "\n".join(line for _, line in rows))
        self.assertTrue(strictly(rules_read("\n".join(line for _, line in rows)), tuple(rule for rule, _ in rows)))

    def test_deeds(self):
        told = ((1, ("draw", 0)), (1, ("wood", 3, 7)), (4, ("coal", 12, (2, 3))), (4, ("set", 1, ((0, 5), (1, 6)))), (9, ("screen", 2, False)))
        text = "at 1 0 draw\nat 1 3 wood 7\nat 4 12 coal 2,3\nat 4 1 set | 0 5 | 1 6\nat 9 2 screen no"
        self.assertEqual(deeds_text(told), text)
        self.assertTrue(strictly(deeds_read(text), told))

    def test_written_and_read_back(self):
        for works, rules, told in some_texts(300):
            for value, (read, write, wrong, _) in zip((works, rules, told), KINDS_OF_TEXT):
                text = write(value)
                self.assertTrue(strictly(read(text), value))
                self.assertIsNone(wrong(text))
                self.assertEqual(write(listed(value)), text)
                self.assertTrue(text == "" or text[-1] != "\n")

    def test_nothing(self):
        self.assertEqual((rules_text(()), rules_read(""), deeds_text(()), deeds_read("")), ("", (), "", ()))
        self.assertEqual(answer(works_read, ""), bad(0))
        for read, _, _, _ in KINDS_OF_TEXT:
            for text in ("\n", " ", "\n\n", "x"):
                self.assertEqual(answer(read, text), bad(0))

    def test_great_numbers(self):
        huge = int("9" * 400)
        for value, (read, write, _, _) in zip((((((huge, huge, huge),), huge, huge, huge, huge, huge),
                                                 ((((0, huge, huge),), huge, huge, (huge,), True, True, True),) * 3, (huge,) * 7),
                                                ((-huge, (("from", huge),), ("wood", huge)),),
                                                ((huge, ("coal", huge, (huge, huge))),)), KINDS_OF_TEXT):
            self.assertTrue(strictly(read(write(value)), value))

    def test_rings_of_3_and_12(self):
        for many in (3, 4, 12, 40):
            works = ((((1, 1, 1),), 0, 1, 1, 1, 2), (SHUT,) * many, NOUGHTS)
            self.assertTrue(strictly(works_read(works_text(works)), works))


class BentTexts(unittest.TestCase):
    def test_one_sign_bent(self):
        """A bent text is the text of what it is read as, or BadLine tells the line that the patterns tell."""
        read_on = {works_read: 0, rules_read: 0, deeds_read: 0}
        for seed, values in enumerate(some_texts(120)):
            numbers = Numbers(seed)
            for value, (read, write, wrong, is_right) in zip(values, KINDS_OF_TEXT):
                for text in bent_texts(write(value), numbers, 30):
                    found = answer(read, text)
                    line = wrong(text)
                    if line is None:
                        self.assertEqual(write(found), text)
                        self.assertTrue(is_right(found), text)
                        read_on[read] += 1
                    else:
                        self.assertEqual(found, bad(line), text)
        self.assertGreater(min(read_on.values()), 100, read_on)

    def test_words_bent(self):
        """Words left out, doubled, and changed for each other."""
        for seed, values in enumerate(some_texts(60)):
            numbers = Numbers(seed * 3 + 1)
            for value, (read, write, wrong, _) in zip(values, KINDS_OF_TEXT):
                words = re.split("([ \n])", write(value))
                for _ in range(12):
                    row = list(words)
                    at = numbers.below(len(row))
                    way = numbers.below(3)
                    if way == 0:
                        del row[at:at + 1 + numbers.below(2)]
                    elif way == 1:
                        row.insert(at, numbers.one_of(words))
                    else:
                        row[at] = numbers.one_of(words + ["0", "1", "-1", "00", "yes", "no", "set", "and", "if", "do", "-"])
                    text = "".join(row)
                    found, line = answer(read, text), wrong(text)
                    self.assertEqual(found if line is not None else write(found), text if line is None else bad(line), text)


class Works(unittest.TestCase):
    LINES = ["make 0 10 10 50 0", "kind 10 2 40", "chamber 30 0 yes no no 8 empty", "chamber 5 9 no yes yes - set | 0 3 1",
             "chamber 0 0 no no yes 2,2 slag 4", "ledger 0 1 2 3 4 5 6"]

    def check(self, at, line, expected=None):
        text = "\n".join(self.LINES[:at] + [line] + self.LINES[at + 1:])
        if expected is None:
            self.assertEqual(works_text(works_read(text)), text)
        else:
            self.assertEqual(answer(works_read, text), bad(expected), line)

    def test_make(self):
        for line in ("make 50 1 1 1 2", "make 0 10 10 50 3"):
            self.check(0, line)
        for line in ("make 0 10 10 50 1", "make 0 0 10 50 0", "make 0 10 0 50 0", "make 0 10 10 0 0", "make -1 10 10 50 0",
                     "make 0 10 10 50 -2", "make 0 10 10 50", "make 0 10 10 50 0 0", "make", "Make 0 10 10 50 0", "make 00 10 10 50 0",
                     "make 0 10 10 50 -0", "make 0 +10 10 50 0", " make 0 10 10 50 0", "make 0 10 10 50 0 ", "make  0 10 10 50 0",
                     "make 0 1_0 10 50 0", "make 0 1e1 10 50 0", "make 0 10 10 50 x", "", "kind 10 2 40", "make,0,10,10,50,0"):
            self.check(0, line, 0)

    def test_kinds(self):
        for line in ("kind 10 2 10", "kind 1 1 1"):
            self.check(1, line)
        for line in ("kind 10 2 9", "kind 0 2 40", "kind 10 0 40", "kind 10 2", "kind 10 2 40 1", "kind", "Kind 10 2 40", "kind 10 2 -40",
                     "kind 10 2 040", "chamber 30 0 yes no no 8 empty", "ledger 0 1 2 3 4 5 6", "", "kind 10 2  40", "kind 10 2 40 "):
            self.check(1, line, 1)
        # A KIND behind a CHAMBER, or one wanting: COURSES of it are of none.
        self.check(3, "kind 10 2 40", 3)
        self.check(3, "chamber 5 9 no yes yes - set | 1 3 1", 3)
        self.assertEqual(answer(works_read, "\n".join(self.LINES[:1] + self.LINES[2:])), bad(1))

    def test_chambers(self):
        for line in ("chamber 0 0 no no no - empty", "chamber 5 9 yes yes yes 1,1,2 set | 0 3 1 | 0 1 0", "chamber 0 9 no no no 1 slag 1",
                     "chamber 9 0 no no no - set | 0 1 99"):
            self.check(3, line)
        for line in ("chamber 0 1 no no no - empty", "chamber 0 0 no no no -", "chamber 0 0 no no no empty", "chamber 0 0 no no - empty",
                     "chamber 0 0 no no no - empty 1", "chamber 0 0 no no no - slag", "chamber 0 0 no no no - slag 0",
                     "chamber 0 0 no no no - slag -1", "chamber 0 0 no no no - slag 1 2", "chamber 0 0 no no no - set",
                     "chamber 0 0 no no no - set |", "chamber 0 0 no no no - set | 0 1", "chamber 0 0 no no no - set 0 1 0",
                     "chamber 0 0 no no no - set | 0 1 0 |", "chamber 0 0 no no no - set | 0 1 0 0 1 0", "chamber 0 0 no no no - set | 0 0 0",
                     "chamber 0 0 no no no - set | -1 1 0", "chamber 0 0 no no no - set | 0 1 -1", "chamber 0 0 no no no - set | 1 1 0",
                     "chamber 0 0 no no no - set|0 1 0", "chamber 0 0 no no no - set | 0 1 0 0", "chamber -1 0 no no no - empty",
                     "chamber 0 -1 no no no - slag 3", "chamber 0 0 Yes no no - empty", "chamber 0 0 1 no no - empty",
                     "chamber 0 0 no no True - empty", "chamber 0 0 no no no 3,2 empty", "chamber 0 0 no no no 0 empty",
                     "chamber 0 0 no no no 0,1 empty", "chamber 0 0 no no no 1, empty", "chamber 0 0 no no no ,1 empty",
                     "chamber 0 0 no no no 1,,2 empty", "chamber 0 0 no no no 1, 2 empty", "chamber 0 0 no no no -1 empty",
                     "chamber 0 0 no no no -- empty", "chamber 0 0 no no no -,1 empty", "chamber 0 0 no no no 01 empty",
                     "chamber 0 0 no no no 1 Empty", "chamber 0 0 no no no 1 full", "chamber", "chamber 0 0", "room 0 0 no no no - empty", ""):
            self.check(3, line, 3)

    def test_ledgers_and_ends(self):
        self.check(5, "ledger 9 9 9 9 9 9 " + "9" * 40)
        for line in ("ledger 0 1 2 3 4 5", "ledger 0 1 2 3 4 5 6 7", "ledger", "ledger 0 1 2 3 4 5 -6", "ledger 0 1 2 3 4 5 06", "Ledger 0 1 2 3 4 5 6",
                     "", "ledger 0 1 2 3 4 5 6 ", "make 0 10 10 50 0"):
            self.check(5, line, 5)
        text = "\n".join(self.LINES)
        for more in ("\n", "\nledger 0 1 2 3 4 5 6", "\nchamber 0 0 no no no - empty", "\n\n", "\n "):
            self.assertEqual(answer(works_read, text + more), bad(6))
        # Behind fewer than 3 CHAMBERS.
        for many in (0, 1, 2):
            self.assertEqual(answer(works_read, "\n".join(self.LINES[:2 + many] + self.LINES[5:])), bad(2 + many))
        # Lines that are wanting: the one behind the last is told.
        for many in range(6):
            self.assertEqual(answer(works_read, "\n".join(self.LINES[:many])), bad(many))
        self.assertEqual(answer(works_read, "\n".join(self.LINES[:5] + ["chamber 0 0 no no no - empty"] * 9)), bad(14))

    def test_the_first_wrong_line_is_told(self):
        lines = list(self.LINES)
        for at in (5, 4, 3, 2, 1, 0):
            lines[at] += " "
            self.assertEqual(answer(works_read, "\n".join(lines)), bad(at))
        self.assertEqual(answer(works_read, "\n".join(self.LINES[:2] + ["ledger x"])), bad(2))


class RulesAndDeeds(unittest.TestCase):
    def test_rules_that_are_none(self):
        good = "rule 0 do open"
        for line in ("", " ", "rule", "rule 0", "rule 0 do", "rule do open", "rule 0 open", "rule 0 do open 1", "rule 0 do open yes", "rule -0 do open",
                     "rule 00 do open", "rule +1 do open", "rule - do open", "rule 1.0 do open", "rule 0 do do", "rule 0 do open do open",
                     "rule 0 if do open", "rule 0 if empty open", "rule 0 empty do open", "rule 0 if empty and do open", "rule 0 if and empty do open",
                     "rule 0 if empty empty do open", "rule 0 if empty if set do open", "rule 0 if empty and and set do open", "rule 0 and empty do open",
                     "rule 0 if loud do open", "rule 0 if below do open", "rule 0 if below -1 do open", "rule 0 if below yes do open",
                     "rule 0 if below 1 2 do open", "rule 0 if empty 1 do open", "rule 0 if wicket do open", "rule 0 if wicket 1 do open",
                     "rule 0 if wicket True do open", "rule 0 if coal 1 do open", "rule 0 if set | 0 1 do open", "rule 0 do damper", "rule 0 do damper 1",
                     "rule 0 do wicket yes", "rule 0 do loud", "rule 0 do wood", "rule 0 do wood -1", "rule 0 do wood 1 2", "rule 0 do wood 01",
                     "rule 0 do coal", "rule 0 do coal 3,2", "rule 0 do coal 0", "rule 0 do coal 3 4", "rule 0 do coal 3,", "rule 0 do set",
                     "rule 0 do set 0 1", "rule 0 do set |", "rule 0 do set | 0", "rule 0 do set | 0 0", "rule 0 do set | -1 1", "rule 0 do set | 0 1 |",
                     "rule 0 do set | 0 1 2", "rule 0 do set || 0 1", "rule  0 do open", " rule 0 do open", "rule 0 do open ", "Rule 0 do open",
                     "rule 0 DO open", "at 1 0 open", "rule 0 do empty", "rule 0 if open do open", "rule\t0 do open", "rule 0 if below 1,2 do open"):
            self.assertEqual(answer(rules_read, line or "\n"), bad(0), line)
            self.assertEqual(answer(rules_read, good + "\n" + line), bad(1), line)
            self.assertEqual(answer(rules_read, good + "\n" + good + "\n" + line + "\n" + line), bad(2))
        self.assertEqual(answer(rules_read, good + "\n"), bad(1))

    def test_any_number_from_0_in_rules_and_deeds(self):
        self.assertEqual(rules_read("rule -999 if below 0 and pieces 0 and from 99999 do set | 77 1 | 0 5"),
                         ((-999, (("below", 0), ("pieces", 0), ("from", 99999)), ("set", ((77, 1), (0, 5)))),))
        self.assertEqual(deeds_read("at 1 99 wood 0\nat 1 0 set | 77 1\nat 99999 3 coal -"),
                         ((1, ("wood", 99, 0)), (1, ("set", 0, ((77, 1),))), (99999, ("coal", 3, ()))))

    def test_deeds_that_are_none(self):
        good = "at 2 0 draw"
        for line in ("", " ", "at", "at 2", "at 2 0", "at 2 draw", "at 0 0 draw", "at -2 0 draw", "at 2 -1 draw", "at 02 0 draw", "at 2 00 draw", "at 2 0 draw 0",
                     "at 2 0 loud", "at 2 0 damper", "at 2 0 damper 1", "at 2 0 screen maybe", "at 2 0 wood", "at 2 0 wood -1", "at 2 0 coal", "at 2 0 coal 2,1",
                     "at 2 0 coal 0", "at 2 0 set", "at 2 0 set | 0", "at 2 0 set | 0 0", "at 2 0 set 0 1", "at  2 0 draw", "at 2 0 draw ", " at 2 0 draw",
                     "At 2 0 draw", "at x 0 draw", "at 2 x draw", "rule 0 do draw", "at 2 0 brick yes", "at 2 0 clear -"):
            self.assertEqual(answer(deeds_read, line or "\n"), bad(0), line)
            self.assertEqual(answer(deeds_read, good + "\n" + line), bad(1), line)
        self.assertEqual(answer(deeds_read, good + "\n"), bad(1))
        self.assertEqual(answer(deeds_read, "at 2 0 draw\nat 1 0 draw\nat 0 0 draw"), bad(1))
        self.assertEqual(answer(deeds_read, "at 2 0 draw\nat 2 0 draw\nat 3 0 draw\nat 2 0 draw"), bad(3))
        self.assertEqual(len(deeds_read("at 2 0 draw\nat 2 0 draw\nat 3 0 draw")), 3)


if __name__ == "__main__":
    unittest.main()
