"""The errors of Lastasked. Each keeps what it is told under the name of its parameter."""


class LateError(ValueError):
    """Any error of this package."""


class BadText(LateError):
    """A text has a line that cannot stand there, or it is no string (line 0)."""

    def __init__(self, line):
        self.line = line


class BadMany(LateError):
    """No number of asks that may be under way."""

    def __init__(self, value):
        self.value = value


class NoMove(LateError):
    """No move that is possible at this stand."""

    def __init__(self, value):
        self.value = value


class BadStory(LateError):
    """A story has a move that is not possible, or it is no story (number 0)."""

    def __init__(self, number):
        self.number = number


class BadDeeds(LateError):
    """No tuple of deeds of the program, or too many of them."""

    def __init__(self, value):
        self.value = value


class TooMany(LateError):
    """A look comes to more members than it may."""

    def __init__(self, number):
        self.number = number


class NotCounted(LateError):
    """A program has a line for which any number of asks is not judged."""

    def __init__(self, line):
        self.line = line


class BadGuards(LateError):
    """No guards that the program can have together."""

    def __init__(self, value):
        self.value = value


class BadLooks(LateError):
    """No tuple of looks."""

    def __init__(self, value):
        self.value = value


class BadOffers(LateError):
    """No tuple of guards and their prices."""

    def __init__(self, value):
        self.value = value


class BadPrograms(LateError):
    """Programs that cannot come in for one another."""

    def __init__(self, value):
        self.value = value


class BadBars(LateError):
    """No tuple of asks that bar an exchange."""

    def __init__(self, value):
        self.value = value


class Unfit(LateError):
    """A program that is not right by itself, told by its number."""

    def __init__(self, number):
        self.number = number


class BadPrices(LateError):
    """No prices of the asks."""

    def __init__(self, value):
        self.value = value


class BadLine(LateError):
    """No line that a desk knows."""

    def __init__(self, value):
        self.value = value


class NothingToUndo(LateError):
    """No move is there to be taken back."""


class NothingToRedo(LateError):
    """No move is there to be done again."""


class Exchanged(LateError):
    """The story has an exchange of programs."""
