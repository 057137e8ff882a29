"""Layings by whose levels a set's level is what is surely there, what may, or any fraction between."""

from beliefsets.fractions import NOUGHT, is_less, minus
from beliefsets.sets import NONE, cases_in, is_within
from beliefsets.spreads import row_with
from beliefsets.tables import may, surely


def parted_row(n, inner, some, share, inside):
    """A set's share laid: so much of it (inside) at a case that is in some, too, the rest at one that isn't."""
    shared = inner & some
    rest = minus(share, inside)
    laid = {}
    if inside != NOUGHT:
        laid[cases_in(shared)[0]] = inside
    if rest != NOUGHT:
        laid[cases_in(inner ^ shared)[0]] = rest
    return row_with(n, laid)


def laying_with(n, belief, some, more):
    """A laying by which a set's level is what is surely there and more, together at most what may."""
    laying = []
    for inner, share in belief:
        inside = NOUGHT
        if is_within(inner, some):
            inside = share
        elif (inner & some) != NONE:
            inside = share if is_less(share, more) else more
            more = minus(more, inside)
        laying.append(parted_row(n, inner, some, share, inside))
    return tuple(laying)


def end_layings(n, belief, some):
    """Two layings of a closed belief: a set's level is what is surely there by the first, what may by the second."""
    between = minus(may(belief, some), surely(belief, some))
    return (laying_with(n, belief, some, NOUGHT), laying_with(n, belief, some, between))


def laying_at(n, belief, some, level):
    """A laying of a closed belief by which a set's level is just a fraction, None where there is none."""
    least = surely(belief, some)
    if is_less(level, least) or is_less(may(belief, some), level):
        return None
    return laying_with(n, belief, some, minus(level, least))
