"""Taken back: the belief that a piece was joined to, and twins that a piece can't tell apart."""

from beliefsets.beliefs import is_wide
from beliefsets.errors import NoBelief, NoElder
from beliefsets.fractions import over
from beliefsets.sets import all_cases, size_of
from beliefsets.tables import belief_by, table_of


def taken(n, whole, piece):
    """The one belief whose both with a wide piece is just the whole."""
    if not is_wide(n, piece):
        raise NoElder("blind", all_cases(n))
    wholes = table_of("common", n, whole)
    pieces = table_of("common", n, piece)
    elders = tuple([over(one, other) for one, other in zip(wholes, pieces)])
    # Both tables are one at NONE, so the shares come to one: "below" is all that can be refused here.
    try:
        return belief_by("common", n, elders)
    except NoBelief as lack:
        raise NoElder("below", lack.set) from None


def sized_alike(n, odd):
    """The belief with the like share on each set whose number of cases is odd (1) or even (0)."""
    sets = [some for some in range(all_cases(n) + 1) if size_of(some) & 1 == odd]
    return tuple([(some, (1, len(sets))) for some in sets])


def twins(n):
    """Two unlike beliefs whose both with any piece that is not wide are the same."""
    return (sized_alike(n, 0), sized_alike(n, 1))
