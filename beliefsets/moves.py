"""Moves of a belief's shares to sets within, and the checker of moved papers; it seeks nothing."""

from beliefsets.beliefs import gathered, sums_of
from beliefsets.fractions import come_to, is_less, is_share, total
from beliefsets.sets import all_cases, is_rising_row, is_set, is_within


def is_move(n, thing):
    """Whether any thing is a tuple (from, to, share) that moves of a belief of n cases may have."""
    if not isinstance(thing, tuple) or len(thing) != 3:
        return False
    source, target, share = thing
    if not is_set(n, source) or not is_set(n, target) or not is_within(target, source):
        return False
    return is_share(share) and share[0] > 0


def are_rising_moves(n, thing):
    """Whether any thing is a tuple of such moves, rising, no two with the same from and to."""
    if not isinstance(thing, tuple):
        return False
    ahead = (-1, -1)
    for move in thing:
        if not is_move(n, move) or move[:2] <= ahead:
            return False
        ahead = move[:2]
    return True


def add_up_to(pairs, belief):
    """Whether pairs (set, share), those of one set added, are just a belief's sets and shares."""
    found = gathered(pairs)
    if sorted(found) != [some for some, share in belief]:
        return False
    return all([come_to(found[some], share) for some, share in belief])


def from_pairs(moves):
    """What is moved, as pairs (from, share)."""
    return [(source, share) for source, target, share in moves]


def to_pairs(moves):
    """What is moved, as pairs (to, share)."""
    return [(target, share) for source, target, share in moves]


def is_moves(n, belief, thing):
    """Whether any thing is MOVES of a belief of n cases."""
    return are_rising_moves(n, thing) and add_up_to(from_pairs(thing), belief)


def moved_by(belief, moves):
    """The belief that comes of a belief by moves of it."""
    return tuple(sums_of(to_pairs(moves)))


def has_within(some, family):
    """Whether a set has a set of a family within it."""
    return any([is_within(inner, some) for inner in family])


def is_lacking_family(n, one, other, thing):
    """Whether any thing is a family of sets to which one belief gives more than another one can move there."""
    if not is_rising_row(all_cases(n) + 1, thing):
        return False
    given = total([share for some, share in one if some in thing])
    at_hand = total([share for some, share in other if has_within(some, thing)])
    return is_less(at_hand, given)


def lets_moved(n, one, other, thing):
    """Whether any thing is a moved paper, that one belief comes of another one or doesn't."""
    if not isinstance(thing, tuple) or len(thing) != 2:
        return False
    if thing[0] == "moves":
        return is_moves(n, other, thing[1]) and add_up_to(to_pairs(thing[1]), one)
    return thing[0] == "lacks" and is_lacking_family(n, one, other, thing[1])
