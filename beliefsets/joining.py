"""Beliefs joined: by both, by either, patched, and what comes of it cleaned or laid."""

from beliefsets.beliefs import belief_of, share_of
from beliefsets.errors import AllClash
from beliefsets.fractions import ONE, fraction, minus, on_one_bottom, over
from beliefsets.sets import NONE, all_cases


def with_tops(belief):
    """A belief's sets with the tops of their shares over one bottom, a list, and that bottom."""
    tops, bottom = on_one_bottom([share for some, share in belief])
    return list(zip([some for some, share in belief], tops)), bottom


def crossed(one, other, place):
    """The belief with the product of each two shares on the set that place tells of their two sets."""
    ones, one_bottom = with_tops(one)
    others, other_bottom = with_tops(other)
    found = {}
    for first, top in ones:
        for second, other_top in others:
            some = place(first, second)
            found[some] = found.get(some, 0) + top * other_top
    return tuple([(some, fraction(found[some], one_bottom * other_bottom)) for some in sorted(found)])


def shared_cases(one, other):
    """What two sets have in common."""
    return one & other


def all_their_cases(one, other):
    """Two sets together."""
    return one | other


def shared_or_all(one, other):
    """What two sets have in common where they meet, else the two together."""
    return one & other if (one & other) != NONE else one | other


def both(one, other):
    """Two beliefs joined by both: on what their sets have in common, clash kept."""
    return crossed(one, other, shared_cases)


def either(one, other):
    """Two beliefs joined by either: on their sets together."""
    return crossed(one, other, all_their_cases)


def patched(one, other):
    """Two beliefs joined by patched: as both where their sets meet, else as either."""
    return crossed(one, other, shared_or_all)


def cleaned(belief):
    """A belief without its clash, the other shares grown to one whole."""
    left = minus(ONE, share_of(belief, NONE))
    if left[0] == 0:
        raise AllClash()
    return tuple([(some, over(share, left)) for some, share in belief if some != NONE])


def laid(n, belief):
    """A belief with its clash laid on ALL."""
    return belief_of(n, [(all_cases(n) if some == NONE else some, share) for some, share in belief])


def joined_two(word, n, one, other):
    """Two beliefs joined by one of the five words."""
    if word == "either":
        return either(one, other)
    if word == "patched":
        return patched(one, other)
    if word == "cleaned":
        return cleaned(both(one, other))
    if word == "laid":
        return laid(n, both(one, other))
    return both(one, other)


def joined(word, n, beliefs):
    """One to eight beliefs joined by a word, from the left; one alone is told as it is."""
    whole = beliefs[0]
    for belief in beliefs[1:]:
        whole = joined_two(word, n, whole, belief)
    return whole
