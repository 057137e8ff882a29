"""Beliefs: tuples of (set, share), sets rising, shares above nought and together one."""

from beliefsets.errors import NoBelief
from beliefsets.fractions import NOUGHT, ONE, come_to_one, is_share, total
from beliefsets.sets import NONE, all_cases, is_set


def is_part(n, thing):
    """Whether any thing is a tuple (set, share) that a belief of n cases may have."""
    if not isinstance(thing, tuple) or len(thing) != 2:
        return False
    return is_set(n, thing[0]) and is_share(thing[1]) and thing[1][0] > 0


def is_belief(n, thing):
    """Whether any thing is a BELIEF of n cases."""
    # The length goes first: no more than all sets can rise, so nothing long is looked through.
    if not isinstance(thing, tuple) or not 1 <= len(thing) <= all_cases(n) + 1:
        return False
    ahead = -1
    for part in thing:
        if not is_part(n, part) or part[0] <= ahead:
            return False
        ahead = part[0]
    return come_to_one([share for some, share in thing])


def belief_of_sums(sums):
    """The belief made of a list of (set, fraction), sets rising, noughts left out."""
    for some, one in sums:
        if one[0] < 0:
            raise NoBelief("below", some)
    if not come_to_one([one for some, one in sums]):
        raise NoBelief("sum", None)
    return tuple([(some, one) for some, one in sums if one[0] != 0])


def gathered(pairs):
    """The fractions of pairs (set, fraction), a dict of lists by their sets."""
    found = {}
    for some, one in pairs:
        found.setdefault(some, []).append(one)
    return found


def sums_of(pairs):
    """The sums of pairs (set, fraction), a list of (set, sum), sets rising."""
    found = gathered(pairs)
    return [(some, total(found[some])) for some in sorted(found)]


def belief_of(n, pairs):
    """The belief of n cases made of pairs (set, fraction), those of one set added."""
    return belief_of_sums(sums_of(pairs))


def share_of(belief, some):
    """The share of a set in a belief, nought where it has none."""
    for inner, share in belief:
        if inner == some:
            return share
    return NOUGHT


def is_closed(belief):
    """Whether a belief has no clash."""
    return share_of(belief, NONE) == NOUGHT


def is_wide(n, belief):
    """Whether ALL is one of a belief's sets."""
    return share_of(belief, all_cases(n)) != NOUGHT


def core_of(belief):
    """The set of the cases that are in one of a belief's sets."""
    core = NONE
    for some, share in belief:
        core = core | some
    return core


def silent(n):
    """The belief of n cases that says nothing: all of the share is on ALL."""
    return ((all_cases(n), ONE),)
