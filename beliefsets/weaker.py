"""Weaker beliefs, and simple ones."""

from beliefsets.beliefs import belief_of
from beliefsets.fractions import ONE, minus, times
from beliefsets.sets import all_cases


def weaker(n, belief, share):
    """A belief with each share times a share, and what is then lacking to one laid on ALL."""
    pairs = [(some, times(one, share)) for some, one in belief]
    return belief_of(n, pairs + [(all_cases(n), minus(ONE, share))])


def simple(n, some, share):
    """The belief with a share on ALL, and what is lacking to one on a set."""
    return belief_of(n, [(all_cases(n), share), (some, minus(ONE, share))])
