"""The refusals: one base, and one class for each kind of refusal.

No class hands its fields on to a message: whatever they are, nothing looks at them.
"""


class BeliefError(ValueError):
    """Any refusal."""


class NoFraction(BeliefError):
    """A division by nought."""


class NoBelief(BeliefError):
    """Shares or a table that no belief has."""

    def __init__(self, word, where):
        self.word = word
        self.set = where


class AllClash(BeliefError):
    """All of the share is on NONE."""


class NoElder(BeliefError):
    """A piece that can't be taken back out of a whole."""

    def __init__(self, word, where):
        self.word = word
        self.set = where


class NoPaper(BeliefError):
    """A paper that its checker does not let by."""

    def __init__(self, word, row):
        self.word = word
        self.row = row


class NoText(BeliefError):
    """A text that can't be read, by its row and its word."""

    def __init__(self, row, word):
        self.row = row
        self.word = word


class TooMany(BeliefError):
    """More than there is room for."""


class NoPiece(BeliefError):
    """A number of which no piece stands."""

    def __init__(self, number):
        self.number = number


class NoLine(BeliefError):
    """A row that a desk does not know."""

    def __init__(self, line):
        self.line = line
