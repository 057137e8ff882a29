"""A desk: it is told rows of words, does by a keeper what they say, and answers by texts."""

from beliefsets.beliefs import is_closed
from beliefsets.errors import NoLine, NoText
from beliefsets.fractions import is_share
from beliefsets.keeper import Keeper
from beliefsets.reading import fraction_in, is_number_text, read_belief, read_set
from beliefsets.texts import NONE_TEXT, shown_belief, shown_fraction

MOST_FIGURES = 6


def is_number_word(word):
    """Whether a word writes a piece's number."""
    return len(word) <= MOST_FIGURES and is_number_text(word)


def is_share_word(word):
    """Whether a word writes a share."""
    return is_share(fraction_in(word))


def closed_belief_in(names, lines):
    """The closed belief that lines write, or NoText."""
    belief = read_belief(names, lines)
    if not is_closed(belief):
        seconds = [line.split(" ")[1] for line in lines]
        raise NoText(seconds.index(NONE_TEXT), 1)
    return belief


class Desk:
    """Answers rows about the pieces of a keeper, cases by their names."""

    def __init__(self, names):
        self.names = names
        self.keeper = Keeper(len(names))

    def say(self, row):
        """Answers a row, any text, by a text; NoLine where it is no row of a desk."""
        words = row.split(" ")
        word = words[0]
        # Behind these what follows is read as a text of its own, words without signs among it.
        if word == "put" and len(words) > 1:
            return self.answer_put(row.removeprefix("put "))
        if word in ("surely", "may") and len(words) > 1:
            return self.answer_level(word, row.removeprefix(word + " "))
        if word == "gone" and len(words) == 2 and is_number_word(words[1]):
            self.keeper.gone(int(words[1]))
            return "ok"
        if word == "weaker" and len(words) == 3 and is_number_word(words[1]) and is_share_word(words[2]):
            self.keeper.weaker(int(words[1]), fraction_in(words[2]))
            return "ok"
        if row == "whole":
            return "; ".join(shown_belief(self.names, self.keeper.whole()))
        if row == "clash":
            return shown_fraction(self.keeper.clash())
        if row == "least":
            return self.answer_least()
        raise NoLine(row)

    def answer_put(self, text):
        """Puts the belief whose lines a text has; its number."""
        return str(self.keeper.put(closed_belief_in(self.names, text.split("; "))))

    def answer_level(self, word, text):
        """What is surely for the set that a text writes, or isn't against it."""
        some = read_set(self.names, text)
        return shown_fraction(self.keeper.surely(some) if word == "surely" else self.keeper.may(some))

    def answer_least(self):
        """The least clash: the numbers of its pieces, or a case by which not all clashes."""
        paper = self.keeper.least_clash()
        if paper[0] == "some":
            return f"some {self.names[paper[1]]}"
        return " ".join(["all"] + [str(number) for number in paper[1]])
