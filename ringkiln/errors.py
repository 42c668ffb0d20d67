"""The errors of the package."""


class NoChamber(LookupError):
    """A number that ought to be that of a CHAMBER is none."""

    def __init__(self, number):
        self.number = number


class NoKind(LookupError):
    """A number that ought to be that of a KIND is none."""

    def __init__(self, number):
        self.number = number


class NoTick(LookupError):
    """A number that ought to be a tick is none."""

    def __init__(self, number):
        self.number = number


class NoRule(LookupError):
    """A number that ought to be that of a RULE is none."""

    def __init__(self, number):
        self.number = number


class NoChoice(LookupError):
    """A number that ought to be that of a choice is none."""

    def __init__(self, number):
        self.number = number


class NoWord(LookupError):
    """A word that no CLAIM begins with."""

    def __init__(self, word):
        self.word = word


class NothingDone(LookupError):
    """There is nothing to take back, or to put back."""

    def __init__(self):
        pass


class Unfit(ValueError):
    """What is asked for cannot be done with what is handed in."""

    def __init__(self):
        pass


class NoPaper(ValueError):
    """There is no such PAPER."""

    def __init__(self):
        pass


class TooMany(ValueError):
    """More would have to be gone through than is allowed."""

    def __init__(self):
        pass


class BadLine(ValueError):
    """A line of a text is not as it ought to be."""

    def __init__(self, number):
        self.number = number
