"""The tale checker: rows are looked at set by set, by tables alone; it seeks nothing."""

from beliefsets.beliefs import is_belief, share_of
from beliefsets.errors import NoPaper
from beliefsets.finer import image, shadow
from beliefsets.fractions import is_below, is_fraction, is_less, is_whole
from beliefsets.rules import cases_by
from beliefsets.sets import NONE, all_cases, is_set
from beliefsets.tables import may, surely, tops_of


def quotients(word, n, belief):
    """The table of a word, not in lowest terms: to compare needs none, and they cost much."""
    tops, bottom = tops_of(word, n, belief)
    return [(top, bottom) for top in tops]


def are_same(ones, others):
    """Whether two tables of quotients are the same, set by set."""
    pairs = list(zip(ones, others))
    return all([one[0] * other[1] == other[0] * one[1] for one, other in pairs])


def is_product(word, n, one, other, made):
    """Whether, by a word, the table of a belief is that of two others multiplied."""
    pairs = list(zip(quotients(word, n, one), quotients(word, n, other)))
    return are_same([(a[0] * b[0], a[1] * b[1]) for a, b in pairs], quotients(word, n, made))


def is_weaker(n, belief, share, made):
    """Whether COMMON is that of another belief times a share, and what this lacks to one."""
    top, bottom = share
    due = [(a * top + b * (bottom - top), b * bottom) for a, b in quotients("common", n, belief)]
    return are_same(due, quotients("common", n, made))


def is_finer(cells, m, belief, n, made):
    """Whether COMMON of each set of n cases is that of another belief, of m cases, of its shadow."""
    ahead = quotients("common", m, belief)
    due = [ahead[shadow(cells, some)] for some in range(all_cases(n) + 1)]
    return are_same(due, quotients("common", n, made))


def is_coarser(cells, m, belief, n, made):
    """Whether HELD of each set of n cases is that of another belief, of m cases, of its image."""
    ahead = quotients("held", m, belief)
    due = [ahead[image(cells, some)] for some in range(all_cases(n) + 1)]
    return are_same(due, quotients("held", n, made))


def is_cleaned(n, belief, made):
    """Whether COMMON of all sets but NONE is that of another belief divided by what its clash leaves."""
    top, bottom = share_of(belief, NONE)
    due = [(a * bottom, b * (bottom - top)) for a, b in quotients("common", n, belief)]
    return are_same(due[1:], quotients("common", n, made)[1:])


def is_made(pieces, ahead, rule, n, made):
    """Whether a belief of n cases is what a rule makes that can stand there."""
    word, number = rule[0], rule[1]
    if word == "piece":
        return made == pieces[number][1]
    m, belief = ahead[number]
    if word == "weaker":
        return is_weaker(n, belief, rule[2], made)
    if word == "finer":
        return is_finer(rule[2], m, belief, n, made)
    if word == "coarser":
        return is_coarser(rule[2], m, belief, n, made)
    if word == "cleaned":
        return is_cleaned(n, belief, made)
    other = ahead[rule[2]][1]
    if word == "taken":
        return is_product("common", n, made, other, belief)
    return is_product("common" if word == "both" else "held", n, belief, other, made)


def is_row(thing):
    """Whether any thing is a tuple of a thing, a number of cases, and a belief of so many."""
    if not isinstance(thing, tuple) or len(thing) != 3:
        return False
    rule, n, belief = thing
    return is_whole(n) and 1 <= n <= 6 and is_belief(n, belief)


def look_at_row(pieces, ahead, row):
    """Refuses any thing that is no right row behind the rows ahead."""
    if not is_row(row):
        raise NoPaper("row", len(ahead))
    rule, n, belief = row
    if cases_by(pieces, ahead, rule) != n:
        raise NoPaper("rule", len(ahead))
    if not is_made(pieces, ahead, rule, n, belief):
        raise NoPaper("wrong", len(ahead))


def is_claim(rows, thing):
    """Whether any thing is, by kind, a claim of one of some rows."""
    if not isinstance(thing, tuple) or len(thing) != 4 or not is_below(len(rows), thing[1]):
        return False
    word, number, some, bound = thing
    return word in ("surely", "may") and is_set(rows[number][0], some) and is_fraction(bound)


def holds(rows, claim):
    """Whether a claim is so."""
    word, number, some, bound = claim
    belief = rows[number][1]
    if word == "surely":
        return not is_less(surely(belief, some), bound)
    return not is_less(bound, may(belief, some))


def is_tale_by_shape(thing):
    """Whether any thing is a tuple of a tuple of 1 to 24 things and one of none to 24."""
    if not isinstance(thing, tuple) or len(thing) != 2:
        return False
    rows, claims = thing
    if not isinstance(rows, tuple) or not isinstance(claims, tuple):
        return False
    return 1 <= len(rows) <= 24 and len(claims) <= 24


def lets_tale(pieces, thing):
    """True where any thing is a right tale for pieces, else NoPaper."""
    if not is_tale_by_shape(thing):
        raise NoPaper("shape", -1)
    ahead = []
    for row in thing[0]:
        look_at_row(pieces, ahead, row)
        ahead.append((row[1], row[2]))
    for number, claim in enumerate(thing[1]):
        if not is_claim(ahead, claim) or not holds(ahead, claim):
            raise NoPaper("claim", number)
    return True
