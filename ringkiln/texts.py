"""Texts: WORKS, RULES and told DEEDS written line by line, and read back."""

from ringkiln.chambers import is_chamber
from ringkiln.deeds import is_act
from ringkiln.errors import BadLine
from ringkiln.kinds import is_kind, is_make, is_set
from ringkiln.rules import is_test
from ringkiln.shapes import KINDS, LAG, is_figures, is_from, is_row, tupled

LEAST_CHAMBERS = 3


def yes_text(yes):
    """True or False as a word."""
    return "yes" if yes else "no"


def pile_text(pile):
    """A PILE as a word."""
    return "-" if pile == () else ",".join([str(strength) for strength in pile])


def numbers_text(numbers):
    """Numbers as words."""
    return " ".join([str(number) for number in numbers])


def rows_text(rows):
    """Tuples of numbers as words, each with | ahead."""
    return " ".join(["| " + numbers_text(row) for row in rows])


def load_text(load):
    """A load as words."""
    if load is None:
        return "empty"
    return "set " + rows_text(load) if is_set(load) else "slag " + str(load)


def chamber_text(chamber):
    """A CHAMBER as a line."""
    load, heat, top, coal, wicket, damper, screen = chamber
    doors = " ".join([yes_text(door) for door in (wicket, damper, screen)])
    return f"chamber {heat} {top} {doors} {pile_text(coal)} {load_text(load)}"


def value_text(value):
    """What follows the word of a TEST or an ACT, as words."""
    if isinstance(value, bool):
        return yes_text(value)
    return pile_text(value) if isinstance(value, tuple) else str(value)


def words_text(row):
    """A TEST or an ACT as words."""
    if row[0] == "set" and len(row) == 2:
        return "set " + rows_text(row[1])
    return " ".join([row[0]] + [value_text(value) for value in row[1:]])


def rule_text(rule):
    """A RULE as a line."""
    place, when, act = rule
    tests = " if " + " and ".join([words_text(test) for test in when]) if when != () else ""
    return f"rule {place}{tests} do {words_text(act)}"


def works_text(works):
    """The text of a WORKS."""
    make, chambers, ledger = tupled(works)
    lines = ["make " + numbers_text(make[LAG:])]
    lines.extend(["kind " + numbers_text(kind) for kind in make[KINDS]])
    lines.extend([chamber_text(chamber) for chamber in chambers])
    return "\n".join(lines + ["ledger " + numbers_text(ledger)])


def rules_text(rules):
    """The text of RULES."""
    return "\n".join([rule_text(rule) for rule in tupled(rules)])


def deed_text(tick, deed):
    """A told DEED as a line."""
    act = deed[:1] + deed[2:]
    return f"at {tick} {deed[1]} {words_text(act)}"


def deeds_text(told):
    """The text of told DEEDS."""
    return "\n".join([deed_text(tick, deed) for tick, deed in tupled(told)])


def need_so(is_right, at):
    """Raise BadLine if a line is not right."""
    if not is_right:
        raise BadLine(at)


def lines_of(text):
    """The lines of a text."""
    return text.split("\n") if text != "" else []


def words_of(line, at):
    """The words of a line with one blank between them."""
    words = line.split(" ")
    need_so("" not in words, at)
    return words


def number_read(word, at):
    """The number that a word of this line is."""
    need_so(is_figures(word[1:] if word[0] == "-" else word) and word != "-0", at)
    return int(word)


def numbers_read(words, at):
    """The tuple of the numbers that words are."""
    return tuple([number_read(word, at) for word in words])


def yes_read(word, at):
    """True or False for yes or no."""
    need_so(word in ("yes", "no"), at)
    return word == "yes"


def pile_read(word, at):
    """The PILE that a word is, its order not looked at."""
    if word == "-":
        return ()
    strengths = word.split(",")
    need_so("" not in strengths, at)
    return numbers_read(strengths, at)


def rows_read(words, many, at):
    """The tuple of the tuples of many numbers, each with | ahead, that words are, the last one maybe too short."""
    long = many + 1
    starts = list(range(0, len(words), long))
    need_so(all([words[start] == "|" for start in starts]), at)
    return tuple([numbers_read(words[start + 1:start + long], at) for start in starts])


def load_read(words, at):
    """The load that words are."""
    if words == ["empty"]:
        return None
    if words[0] == "slag":
        need_so(len(words) == 2, at)
        return number_read(words[1], at)
    need_so(words[0] == "set", at)
    return rows_read(words[1:], 3, at)


def chamber_read(words, at):
    """The CHAMBER that the words behind `chamber` are, its numbers not looked at."""
    need_so(len(words) >= 7, at)
    heat, top = numbers_read(words[:2], at)
    wicket, damper, screen = [yes_read(word, at) for word in words[2:5]]
    return load_read(words[6:], at), heat, top, pile_read(words[5], at), wicket, damper, screen


def value_read(word, value, at):
    """What stands behind the word of a TEST or an ACT."""
    if word in ("wicket", "damper", "screen"):
        return yes_read(value, at)
    return pile_read(value, at) if word == "coal" else number_read(value, at)


def test_read(words, at):
    """The TEST that words are."""
    test = tuple(words[:1] + [value_read(words[0], value, at) for value in words[1:]])
    need_so(is_test(test), at)
    return test


def act_read(words, at):
    """The ACT that words are."""
    need_so(words != [], at)
    if words[0] == "set":
        act = ("set", rows_read(words[1:], 2, at))
    else:
        act = tuple(words[:1] + [value_read(words[0], value, at) for value in words[1:]])
    need_so(is_act(act), at)
    return act


def parted_at(words, mark):
    """The lists of the words between those that are this mark."""
    rows = [[]]
    for word in words:
        if word == mark:
            rows.append([])
        else:
            rows[-1].append(word)
    return rows


def rule_read(line, at):
    """The RULE that a line is."""
    words = words_of(line, at)
    need_so(words[0] == "rule" and words.count("do") == 1, at)
    place = number_read(words[1], at)
    split = words.index("do")
    need_so(split == 2 or words[2] == "if", at)
    rows = parted_at(words[3:split], "and") if split > 2 else []
    return place, tuple([test_read(row, at) for row in rows]), act_read(words[split + 1:], at)


def rules_read(text):
    """The RULES that have this text."""
    return tuple([rule_read(line, at) for at, line in enumerate(lines_of(text))])


def told_read(line, at):
    """The pair (tick, DEED) that a line is."""
    words = words_of(line, at)
    need_so(words[0] == "at" and len(words) > 3, at)
    tick, number = numbers_read(words[1:3], at)
    need_so(tick >= 1 and number >= 0, at)
    act = act_read(words[3:], at)
    return tick, act[:1] + (number,) + act[1:]


def deeds_read(text):
    """The told DEEDS that have this text."""
    told = []
    for at, line in enumerate(lines_of(text)):
        told.append(told_read(line, at))
        need_so(at == 0 or told[at - 1][0] <= told[at][0], at)
    return tuple(told)


def make_read(lines):
    """The MAKE that the first lines are."""
    need_so(lines != [], 0)
    words = words_of(lines[0], 0)
    need_so(words[0] == "make", 0)
    bounds = numbers_read(words[1:], 0)
    # A KIND of its own: whether the numbers of this line are right hangs on no other line.
    need_so(is_make((((1, 1, 1),),) + bounds), 0)
    kinds = []
    for at in range(1, len(lines)):
        words = words_of(lines[at], at)
        if words[0] != "kind" and at > 1:
            break
        kinds.append(numbers_read(words[1:], at))
        need_so(words[0] == "kind" and is_kind(kinds[-1]), at)
    return (tuple(kinds),) + bounds


def works_read(text):
    """The WORKS that has this text."""
    lines = lines_of(text)
    make = make_read(lines)
    chambers = []
    for at in range(1 + len(make[KINDS]), len(lines)):
        words = words_of(lines[at], at)
        if words[0] == "ledger":
            need_so(len(chambers) >= LEAST_CHAMBERS, at)
            ledger = numbers_read(words[1:], at)
            need_so(is_row(ledger, 7) and all([is_from(number, 0) for number in ledger]), at)
            need_so(at + 1 == len(lines), at + 1)
            return make, tuple(chambers), ledger
        need_so(words[0] == "chamber", at)
        chambers.append(chamber_read(words[1:], at))
        need_so(is_chamber(make, chambers[-1]), at)
    raise BadLine(len(lines))
