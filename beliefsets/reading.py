"""Texts read: fractions, sets and beliefs, refused by the row and the word that can't stand there."""

from beliefsets.errors import NoText
from beliefsets.fractions import come_to_one, is_fraction, is_share
from beliefsets.sets import NONE, set_of
from beliefsets.texts import NONE_TEXT

FIGURES = "0123456789"


def is_number_text(text):
    """Whether a text is figures, the first no 0 but in 0 itself."""
    if text == "" or not all(sign in FIGURES for sign in text):
        return False
    return text == "0" or text[0] != "0"


def fraction_in(word):
    """The fraction that a word writes, None where it writes none."""
    above, slash, below = word.removeprefix("-").partition("/")
    if not is_number_text(above) or (slash != "" and not is_number_text(below)):
        return None
    if word == "-0" or below == "1":
        return None
    top = -int(above) if word.startswith("-") else int(above)
    one = (top, 1 if slash == "" else int(below))
    return one if is_fraction(one) else None


def share_in(row, word):
    """The share above nought that the first word of a row writes."""
    one = fraction_in(word)
    if one is None or not is_share(one) or one[0] == 0:
        raise NoText(row, 0)
    return one


def set_in(names, row, words, first):
    """The set that words write, those of a row from the word numbered first on."""
    if words == []:
        raise NoText(row, first)
    if words[0] == NONE_TEXT:
        if len(words) > 1:
            raise NoText(row, first + 1)
        return NONE
    cases = []
    for at, word in enumerate(words):
        if word not in names or (cases != [] and names.index(word) <= cases[-1]):
            raise NoText(row, first + at)
        cases.append(names.index(word))
    return set_of(cases)


def read_fraction(text):
    """The fraction that a text writes."""
    words = text.split(" ")
    one = fraction_in(words[0])
    if one is None:
        raise NoText(0, 0)
    if len(words) > 1:
        raise NoText(0, 1)
    return one


def read_set(names, text):
    """The set that a text writes."""
    return set_in(names, 0, text.split(" "), 0)


def read_belief(names, lines):
    """The belief that lines write, in whatever order they stand."""
    found = {}
    for row, line in enumerate(lines):
        words = line.split(" ")
        share = share_in(row, words[0])
        some = set_in(names, row, words[1:], 1)
        if some in found:
            raise NoText(row, 1)
        found[some] = share
    if not come_to_one([found[some] for some in found]):
        raise NoText(len(lines), 0)
    return tuple([(some, found[some]) for some in sorted(found)])
