"""The errors of the package. Each one is a WritingError, and so a ValueError."""


class WritingError(ValueError):
    """What every error of this package is."""


class NoBase(WritingError):
    """Raised for what is no base."""

    def __init__(self):
        WritingError.__init__(self, "a base is an integer from 2 to 5")


class NoRow(WritingError):
    """Raised for what is no row."""

    def __init__(self):
        WritingError.__init__(self, "a row is a pair of tuples of integers, the second one not empty")


class NoNumber(WritingError):
    """Raised for what is no number, or none that is let here."""

    def __init__(self):
        WritingError.__init__(self, "a number is a fraction from -1 to 1")


class NoMany(WritingError):
    """Raised for what is no number of things that is let here."""

    def __init__(self):
        WritingError.__init__(self, "this number of things is not let here")


class TooMany(WritingError):
    """Raised for an answer of more things than are told."""

    def __init__(self, most):
        WritingError.__init__(self, "there are more than are told")
        self.most = most


class BadMachine(WritingError):
    """Raised for parts that make no machine."""

    def __init__(self, part):
        WritingError.__init__(self, "these parts make no machine")
        self.part = part


class NoState(WritingError):
    """Raised for what is no state of the machine."""

    def __init__(self):
        WritingError.__init__(self, "a state is an index into the rows of the machine")


class NoDigits(WritingError):
    """Raised for what is no list or tuple of digits."""

    def __init__(self):
        WritingError.__init__(self, "digits are a list or tuple of digits of the base")


class NoWriting(WritingError):
    """Raised for what is no writing to the base."""

    def __init__(self):
        WritingError.__init__(self, "a writing is a row of digits of the base")


class Unsound(WritingError):
    """Raised for a machine that is not sound."""

    def __init__(self):
        WritingError.__init__(self, "the machine makes unlike ones of two writings of a number")


class NoFraction(WritingError):
    """Raised for what is no fraction."""

    def __init__(self):
        WritingError.__init__(self, "a fraction is a pair of integers in lowest terms, the bottom above 0")


class OtherBase(WritingError):
    """Raised for two things of unlike bases."""

    def __init__(self):
        WritingError.__init__(self, "both must have one base")


class NotWithin(WritingError):
    """Raised for an inner machine with a value that is no number."""

    def __init__(self, x):
        WritingError.__init__(self, "the value at this number is not from -1 to 1")
        self.x = x


class NoChances(WritingError):
    """Raised for what are no chances."""

    def __init__(self):
        WritingError.__init__(self, "chances are a fraction from 0 on for each digit, 1 in all")


class NoTurns(WritingError):
    """Raised for what are no turns."""

    def __init__(self):
        WritingError.__init__(self, "turns are a tuple of 1 to 4 flags")


class NoHand(WritingError):
    """Raised for what is no hand."""

    def __init__(self):
        WritingError.__init__(self, "a hand is told by a flag")


class NoChoices(WritingError):
    """Raised for what are no choices of the hand."""

    def __init__(self):
        WritingError.__init__(self, "choices are a digit for each of the hand's states and places")


class BadDust(WritingError):
    """Raised for parts that make no dust."""

    def __init__(self, part):
        WritingError.__init__(self, "these parts make no dust")
        self.part = part


class NoDigit(WritingError):
    """Raised for what is no digit."""

    def __init__(self):
        WritingError.__init__(self, "a digit of the base is asked for")


class NothingDone(WritingError):
    """Raised for taking back where nothing was done."""

    def __init__(self):
        WritingError.__init__(self, "there is nothing to take back")


class BadAnswer(WritingError):
    """Raised for a stranger's answer that is no fraction."""

    def __init__(self, x):
        WritingError.__init__(self, "the answer at this number is no fraction")
        self.x = x


class NoFit(WritingError):
    """Raised for a stranger whom no machine fits."""

    def __init__(self):
        WritingError.__init__(self, "no machine of so many states fits")


class BadText(WritingError):
    """Raised for a text that has not its form."""

    def __init__(self, line):
        WritingError.__init__(self, "the text has not its form")
        self.line = line


class NoLine(WritingError):
    """Raised for what is no line that a desk knows."""

    def __init__(self):
        WritingError.__init__(self, "a desk knows no such line")


class NoName(WritingError):
    """Raised for a name of which nothing is kept."""

    def __init__(self, name):
        WritingError.__init__(self, "nothing is kept under this name")
        self.name = name
