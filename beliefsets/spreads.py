"""Levels of cases, and layings of a closed belief's shares on cases."""

from beliefsets.fractions import NOUGHT, come_to, come_to_one, is_share, total
from beliefsets.sets import cases_in, has_case


def is_row_of_shares(n, thing):
    """Whether any thing is a tuple of n shares."""
    return isinstance(thing, tuple) and len(thing) == n and all([is_share(one) for one in thing])


def is_levels(n, thing):
    """Whether any thing is LEVELS of n cases."""
    return is_row_of_shares(n, thing) and come_to_one(thing)


def level_at(levels, some):
    """The level of a set: that of its cases, added."""
    return total([levels[case] for case in cases_in(some)])


def is_laid(n, some, share, thing):
    """Whether any thing is a tuple of n shares, at cases of a set alone, together the set's share."""
    if not is_row_of_shares(n, thing):
        return False
    beside = [one for case, one in enumerate(thing) if not has_case(some, case)]
    return all([one == NOUGHT for one in beside]) and come_to(thing, share)


def is_laying(n, belief, thing):
    """Whether any thing is a LAYING of a closed belief of n cases."""
    if not isinstance(thing, tuple) or len(thing) != len(belief):
        return False
    pairs = list(zip(belief, thing))
    return all([is_laid(n, some, share, row) for (some, share), row in pairs])


def laid_at(laying, case):
    """What a laying lays at a case, set by set, a list."""
    return [row[case] for row in laying]


def levels_of(n, laying):
    """The levels of a laying: at each case, what is laid there, added."""
    return tuple([total(laid_at(laying, case)) for case in range(n)])


def row_with(n, laid):
    """The tuple of n shares that has those of a dict at their cases, nought elsewhere."""
    return tuple([laid.get(case, NOUGHT) for case in range(n)])
