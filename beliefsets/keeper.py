"""A keeper of pieces: closed beliefs that are put, made weaker, and gone again."""

from beliefsets.beliefs import share_of, silent
from beliefsets.clashing import clash_paper
from beliefsets.errors import NoPiece, TooMany
from beliefsets.joining import joined
from beliefsets.sets import NONE
from beliefsets.tables import told_at
from beliefsets.weaker import weaker

MOST = 8


class Keeper:
    """Holds closed beliefs of n cases, each with its number."""

    def __init__(self, n):
        self.n = n
        self.standing = {}
        self.due = 0

    def put(self, belief):
        """Puts a piece and tells its number, or TooMany."""
        if len(self.standing) >= MOST:
            raise TooMany()
        number = self.due
        self.standing[number] = belief
        self.due = number + 1
        return number

    def piece_at(self, number):
        """The piece of a number, as it stands, or NoPiece."""
        if number not in self.standing:
            raise NoPiece(number)
        return self.standing[number]

    def gone(self, number):
        """Takes a piece away, or NoPiece."""
        self.piece_at(number)
        del self.standing[number]

    def weaker(self, number, share):
        """Lets a piece stand weaker by a share from now on, or NoPiece."""
        self.standing[number] = weaker(self.n, self.piece_at(number), share)

    def pieces(self):
        """The pieces that stand, a list of tuples (number, belief), rising."""
        return [(number, self.standing[number]) for number in sorted(self.standing)]

    def whole(self):
        """Both of all pieces that stand, silent where none does."""
        return joined("both", self.n, [silent(self.n)] + [belief for number, belief in self.pieces()])

    def surely(self, some):
        """What is surely for a set by the whole."""
        return told_at("surely", self.whole(), some)

    def may(self, some):
        """What isn't against a set by the whole."""
        return told_at("may", self.whole(), some)

    def clash(self):
        """The share of NONE in the whole."""
        return share_of(self.whole(), NONE)

    def least_clash(self):
        """A paper of clash of the pieces that stand, by their numbers here."""
        rows = self.pieces()
        paper = clash_paper(self.n, [belief for number, belief in rows])
        if paper[0] == "some":
            return paper
        word, places, lacking, needed = paper
        return (word, tuple([rows[at][0] for at in places]), tuple([rows[at][0] for at in lacking]), needed)
