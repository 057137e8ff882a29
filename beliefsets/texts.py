"""Texts: fractions, sets and beliefs written, sets by the names of their cases."""

from beliefsets.sets import NONE, cases_in

LETTERS = "abcdefghijklmnopqrstuvwxyz"
NONE_TEXT = "-"


def is_name(thing):
    """Whether any thing is a text of 1 to 8 small letters."""
    return isinstance(thing, str) and 1 <= len(thing) <= 8 and all(sign in LETTERS for sign in thing)


def is_names(thing):
    """Whether any thing is NAMES: a tuple of one to six unlike names."""
    if not isinstance(thing, tuple) or not 1 <= len(thing) <= 6:
        return False
    return all(is_name(one) for one in thing) and len(set(thing)) == len(thing)


def shown_fraction(one):
    """A fraction's text."""
    top, bottom = one
    return str(top) if bottom == 1 else f"{top}/{bottom}"


def shown_set(names, some):
    """A set's text: the names of its cases, or a - where it is NONE."""
    if some == NONE:
        return NONE_TEXT
    return " ".join([names[case] for case in cases_in(some)])


def shown_belief(names, belief):
    """A belief's lines: each share and its set, in the order of the sets."""
    return [f"{shown_fraction(share)} {shown_set(names, some)}" for some, share in belief]
