"""Kept papers told: a laying to levels that keep a closed belief, else a set that lacks."""

from beliefsets.fractions import fraction, on_one_bottom
from beliefsets.sets import all_cases, cases_in, has_case, is_within
from beliefsets.tables import tops_of


def spare_at(n, belief, levels):
    """For each set, the top of its level less what is surely there, a list, and the one bottom."""
    level_tops, level_bottom = on_one_bottom(levels)
    sure_tops, sure_bottom = tops_of("surely", n, belief)
    spare = []
    for some, sure in enumerate(sure_tops):
        level = sum([level_tops[case] for case in cases_in(some)])
        spare.append(level * sure_bottom - sure * level_bottom)
    return spare, level_bottom * sure_bottom


def pinched_sets(n, some, case):
    """The sets whose level is drawn on where a set's share is laid at a case of it, but not their surely."""
    return [outer for outer in range(all_cases(n) + 1) if has_case(outer, case) and not is_within(some, outer)]


def laid_row(n, some, top, spare):
    """The tops of a set's share laid on its cases; spare (the caller's own) is what they leave.

    At each case as much is laid as leaves no set short of what is surely there: so the levels left keep the rest of
    the belief, and it can be laid. Where less than all was laid at a case, a set without spare bars it for good: so
    what is left behind the last case, which could be laid nowhere, is nought.
    """
    row = [0] * n
    left = top
    for case in cases_in(some):
        pinched = pinched_sets(n, some, case)
        most = min([left] + [spare[outer] for outer in pinched])
        for outer in pinched:
            spare[outer] = spare[outer] - most
        row[case] = most
        left = left - most
    return row


def kept_paper(n, belief, levels):
    """A kept paper for a closed belief and levels."""
    spare, bottom = spare_at(n, belief, levels)
    for some, one in enumerate(spare):
        if one < 0:
            return ("lacks", some)
    laying = []
    for some, share in belief:
        row = laid_row(n, some, share[0] * (bottom // share[1]), spare)
        laying.append(tuple([fraction(top, bottom) for top in row]))
    return ("laying", tuple(laying))
