"""The rules of tales: which tuples are rules, and where they can stand."""

from beliefsets.beliefs import is_wide, share_of
from beliefsets.finer import is_map
from beliefsets.fractions import ONE, is_below, is_share
from beliefsets.sets import NONE

LENGTHS = {"piece": 2, "both": 3, "either": 3, "weaker": 3, "finer": 3, "coarser": 3, "taken": 3, "cleaned": 2}


def is_rule_by_word(thing):
    """Whether any thing is a tuple with one of the eight words and as many things as behind that one."""
    if not isinstance(thing, tuple) or len(thing) == 0 or not isinstance(thing[0], str):
        return False
    return LENGTHS.get(thing[0]) == len(thing)


def cases_of_finer(n, thing):
    """The m for which any thing is a map of n cases to m, None where there is none."""
    for m in range(1, 7):
        if is_map(n, m, thing):
            return m
    return None


def cases_of_coarser(m, thing):
    """The n for which any thing is a map of n cases to m, None where there is none."""
    for n in range(1, 7):
        if is_map(n, m, thing):
            return n
    return None


def cases_by_two(ahead, rule):
    """How many cases come of two rows, None where the rule can't stand there."""
    if not is_below(len(ahead), rule[2]):
        return None
    n, one = ahead[rule[1]]
    m, other = ahead[rule[2]]
    if n != m or (rule[0] == "taken" and not is_wide(m, other)):
        return None
    return n


def cases_by(pieces, ahead, rule):
    """How many cases come of any thing as a rule behind the rows ahead, None where it can't stand there.

    Pieces and rows ahead are lists of tuples (n, belief).
    """
    if not is_rule_by_word(rule):
        return None
    word, number = rule[0], rule[1]
    if word == "piece":
        return pieces[number][0] if is_below(len(pieces), number) else None
    if not is_below(len(ahead), number):
        return None
    n, belief = ahead[number]
    if word == "weaker":
        return n if is_share(rule[2]) else None
    if word == "finer":
        return cases_of_finer(n, rule[2])
    if word == "coarser":
        return cases_of_coarser(n, rule[2])
    if word == "cleaned":
        return n if share_of(belief, NONE) != ONE else None
    return cases_by_two(ahead, rule)
