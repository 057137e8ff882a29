"""Where brackets part: three beliefs joined by a word, from the left and from the right."""

from beliefsets.beliefs import share_of
from beliefsets.joining import joined_two
from beliefsets.sets import all_cases


def parting(word, n, one, two, three):
    """None where both brackets give the same, else (left, right, the least set of unlike shares)."""
    left = joined_two(word, n, joined_two(word, n, one, two), three)
    right = joined_two(word, n, one, joined_two(word, n, two, three))
    for some in range(all_cases(n) + 1):
        if share_of(left, some) != share_of(right, some):
            return (left, right, some)
    return None
