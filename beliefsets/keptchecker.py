"""The checker of kept papers: whether levels keep a closed belief; it seeks nothing."""

from beliefsets.fractions import come_to, is_less
from beliefsets.sets import is_set
from beliefsets.spreads import is_laying, laid_at, level_at
from beliefsets.tables import surely


def is_laying_to(n, belief, levels, thing):
    """Whether any thing is a laying of a belief whose levels are these."""
    if not is_laying(n, belief, thing):
        return False
    return all([come_to(laid_at(thing, case), levels[case]) for case in range(n)])


def is_lack(n, belief, levels, thing):
    """Whether any thing is a set whose level is below surely there."""
    return is_set(n, thing) and is_less(level_at(levels, thing), surely(belief, thing))


def lets_kept(n, belief, levels, thing):
    """Whether any thing is a kept paper for a closed belief and levels."""
    if not isinstance(thing, tuple) or len(thing) != 2:
        return False
    if thing[0] == "laying":
        return is_laying_to(n, belief, levels, thing[1])
    return thing[0] == "lacks" and is_lack(n, belief, levels, thing[1])
