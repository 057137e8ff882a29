"""Weights of wide beliefs, the belief by weights, and the least committed of two."""

from beliefsets.fractions import fraction, is_less
from beliefsets.sets import all_cases, is_within, sets_within, size_of
from beliefsets.tables import belief_by, tops_of


def product(numbers):
    """All of some whole numbers multiplied."""
    found = 1
    for number in numbers:
        found = found * number
    return found


def weight_of(n, tops, some):
    """The weight of a set but ALL, by the tops of the table of COMMON over one bottom."""
    others = sets_within(all_cases(n) ^ some)
    odd = product([tops[some | more] for more in others if size_of(more) & 1 == 1])
    even = product([tops[some | more] for more in others if size_of(more) & 1 == 0])
    # As many are odd as even, so the one bottom that is left out here would fall out.
    return fraction(odd, even)


def weights(n, belief):
    """The weights of a wide belief, by the numbers of all sets but ALL."""
    tops, bottom = tops_of("common", n, belief)
    return tuple([weight_of(n, tops, some) for some in range(all_cases(n))])


def common_by(some, outer):
    """COMMON of a set (outer), by weights: the product of those of all sets that it is not within."""
    others = [one for inner, one in enumerate(some) if not is_within(outer, inner)]
    return fraction(product([one[0] for one in others]), product([one[1] for one in others]))


def by_weights(n, some):
    """The one belief of n cases that has these weights."""
    return belief_by("common", n, tuple([common_by(some, outer) for outer in range(all_cases(n) + 1)]))


def least(n, one, other):
    """The least committed of two wide beliefs: by the lesser weight at each set."""
    pairs = list(zip(weights(n, one), weights(n, other)))
    return by_weights(n, tuple([first if is_less(first, second) else second for first, second in pairs]))
