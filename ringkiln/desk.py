"""A desk: requests, line by line, to a Board, and the replies."""

from ringkiln.board import Board
from ringkiln.chambers import need_chamber
from ringkiln.errors import BadLine, NoChamber, NoKind, NothingDone, Unfit
from ringkiln.shapes import HEAT, is_figures
from ringkiln.texts import lines_of

MOST_FIGURES = 13
MOST_TICKS = 100
PLAIN = ("draw", "clear", "brick", "open", "heat")
LONE = ("still", "undo", "redo", "fronts")


def is_figure_word(word, least):
    """Whether a word is a number of a request, from least on."""
    return len(word) <= MOST_FIGURES and is_figures(word) and int(word) >= least


def are_numbers(words, least):
    """Whether words are one or more numbers of a request, from least on."""
    return words != [] and all([is_figure_word(word, least) for word in words])


def are_green_words(words):
    """Whether words are one or more pairs of numbers (K, C)."""
    return len(words) % 2 == 0 and are_numbers(words[::2], 0) and are_numbers(words[1::2], 1)


def are_pile_words(words):
    """Whether words are one or more strengths that never fall."""
    if not are_numbers(words, 1):
        return False
    strengths = [int(word) for word in words]
    return strengths == sorted(strengths)


def is_request(line):
    """Whether a line is a request."""
    words = line.split(" ")
    word = words[0]
    rest = words[1:]
    if word in LONE:
        return rest == []
    if word == "go":
        return len(rest) == 1 and is_figure_word(rest[0], 1) and int(rest[0]) <= MOST_TICKS
    if rest == [] or not is_figure_word(rest[0], 0):
        return False
    if word == "set":
        return are_green_words(rest[1:])
    if word == "coal":
        return are_pile_words(rest[1:])
    if word == "wood":
        return len(rest) == 2 and is_figure_word(rest[1], 1)
    if word in ("damper", "screen"):
        return len(rest) == 2 and rest[1] in ("yes", "no")
    return word in PLAIN and len(rest) == 1


def deed_in(words):
    """The DEED that the words of a request are."""
    word = words[0]
    number = int(words[1])
    if word in ("damper", "screen"):
        return word, number, words[2] == "yes"
    numbers = tuple([int(own) for own in words[2:]])
    if word == "set":
        return word, number, tuple([pair for pair in zip(numbers[::2], numbers[1::2])])
    if word == "coal":
        return word, number, numbers
    return (word, number) + numbers


def heat_now(board, number):
    """The heat of a CHAMBER of a Board."""
    chambers = board.works_now()[1]
    need_chamber(chambers, number)
    return chambers[number][HEAT]


def answer(board, words):
    """Do what the words of a request ask a Board for: the reply."""
    word = words[0]
    if word == "fronts":
        fronts = board.fronts_now()
        return " ".join([str(front) for front in fronts]) if fronts != () else "-"
    if word == "heat":
        return str(heat_now(board, int(words[1])))
    if word == "undo":
        board.undo()
    elif word == "redo":
        board.redo()
    elif word == "go":
        board.go(int(words[1]))
    elif word == "still":
        board.do(("still",))
    else:
        board.lay(deed_in(words))
    return "done"


def reply(board, line):
    """The reply of a Board to a request."""
    try:
        told = answer(board, line.split(" "))
    except NoChamber:
        return "no NoChamber"
    except NoKind:
        return "no NoKind"
    except Unfit:
        return "no Unfit"
    except NothingDone:
        return "no NothingDone"
    return told


def replies(works, rules, text):
    """The replies, one a line, of a new Board to a text of requests."""
    lines = lines_of(text)
    for number, line in enumerate(lines):
        if not is_request(line):
            raise BadLine(number)
    board = Board(works, rules)
    return [reply(board, line) for line in lines]
