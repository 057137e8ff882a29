"""Maps of cases to sets of other cases; beliefs told finer and coarser by them."""

from beliefsets.beliefs import belief_of
from beliefsets.sets import NONE, all_cases, cases_in, is_set


def is_map(n, m, thing):
    """Whether any thing is a MAP of n cases to m."""
    if not isinstance(thing, tuple) or len(thing) != n:
        return False
    found = NONE
    for cell in thing:
        if not is_set(m, cell) or cell == NONE or (cell & found) != NONE:
            return False
        found = found | cell
    return found == all_cases(m)


def image(cells, some):
    """The sets of a set's cases together."""
    found = NONE
    for case in cases_in(some):
        found = found | cells[case]
    return found


def shadow(cells, some):
    """The cases whose sets a set meets."""
    found = NONE
    for case, cell in enumerate(cells):
        if (cell & some) != NONE:
            found = found | (1 << case)
    return found


def finer(cells, belief):
    """A belief with each set's share on the set's image."""
    # Unlike sets have unlike images, but these rise otherwise.
    return tuple(sorted([(image(cells, some), share) for some, share in belief]))


def coarser(cells, belief):
    """A belief with each set's share on the set's shadow, alike ones added."""
    return belief_of(len(cells), [(shadow(cells, some), share) for some, share in belief])
