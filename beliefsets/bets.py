"""Bets: what is gained by levels, and papers of the least and the most that is gained by those that keep a belief."""

from beliefsets.fractions import NOUGHT, come_to, is_fraction, total
from beliefsets.sets import cases_in, has_case, size_of
from beliefsets.spreads import is_laying, row_with


def gained_at(levels, gains):
    """What is gained at each case, a list of tuples (top, bottom), not in lowest terms: they are only added."""
    return [(level[0] * gain, level[1]) for level, gain in zip(levels, gains)]


def gain_by(levels, gains):
    """What is gained by levels: each case's level times its gain, added."""
    return total(gained_at(levels, gains))


def gained_by_rows(laying, gains):
    """What is gained by each share that a laying lays, a list as of gained_at; added it is what its levels gain."""
    found = []
    for row in laying:
        found.extend(gained_at(row, gains))
    return found


def even_levels(n, belief):
    """The levels by which each set's share is parted alike among its cases."""
    levels = []
    for case in range(n):
        parts = [(share[0], share[1] * size_of(some)) for some, share in belief if has_case(some, case)]
        levels.append(total(parts))
    return tuple(levels)


def end_cases(gains, word, some):
    """The cases of a set whose gain is the least, or the most, in it, a rising list."""
    cases = cases_in(some)
    inside = [gains[case] for case in cases]
    end = min(inside) if word == "least" else max(inside)
    return [case for case in cases if gains[case] == end]


def is_laid_at(row, cases):
    """Whether a row of shares lays nothing but at some cases."""
    return all([share == NOUGHT for case, share in enumerate(row) if case not in cases])


def lets_gain(n, belief, gains, word, thing):
    """Whether any thing is a gain paper for a closed belief, gains, and "least" or "most"."""
    if not isinstance(thing, tuple) or len(thing) != 2 or not is_fraction(thing[0]):
        return False
    gain, laying = thing
    if not is_laying(n, belief, laying):
        return False
    pairs = list(zip(belief, laying))
    if not all([is_laid_at(row, end_cases(gains, word, some)) for (some, share), row in pairs]):
        return False
    return come_to(gained_by_rows(laying, gains), gain)


def gain_paper(n, belief, gains, word):
    """A gain paper for a closed belief, gains, and "least" or "most"."""
    laying = [row_with(n, {end_cases(gains, word, some)[0]: share}) for some, share in belief]
    return (total(gained_by_rows(laying, gains)), tuple(laying))
