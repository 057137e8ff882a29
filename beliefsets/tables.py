"""Tables: surely, may, common and held of a belief at each set, and the belief told back."""

from beliefsets.beliefs import belief_of_sums
from beliefsets.errors import NoBelief
from beliefsets.fractions import NOUGHT, ONE, fraction, minus, on_one_bottom, total
from beliefsets.sets import NONE, all_cases, is_within, sets_within, size_of


def counts(word, inner, some):
    """Whether, by a word, the share of a belief's set (inner) is counted at a set (some)."""
    if word == "surely":
        return inner != NONE and is_within(inner, some)
    if word == "may":
        return (inner & some) != NONE
    if word == "common":
        return is_within(some, inner)
    return is_within(inner, some)


def told_at(word, belief, some):
    """What a word tells of a belief at a set: the shares that count there, added."""
    return total([share for inner, share in belief if counts(word, inner, some)])


def surely(belief, some):
    """The shares of a belief's sets within a set, NONE aside."""
    return told_at("surely", belief, some)


def may(belief, some):
    """The shares of a belief's sets that meet a set."""
    return told_at("may", belief, some)


def common(belief, some):
    """The shares of a belief's sets that a set is within."""
    return told_at("common", belief, some)


def held(belief, some):
    """The shares of a belief's sets within a set, NONE too."""
    return told_at("held", belief, some)


def tops_of(word, n, belief):
    """The tops of the table of a word over one bottom, a list by the numbers of all sets, and that bottom."""
    inners = [inner for inner, share in belief]
    tops, bottom = on_one_bottom([share for inner, share in belief])
    found = []
    for some in range(all_cases(n) + 1):
        found.append(sum([top for inner, top in zip(inners, tops) if counts(word, inner, some)]))
    return found, bottom


def table_of(word, n, belief):
    """The table of a word: the tuple of what it tells of a belief at all sets of n cases."""
    tops, bottom = tops_of(word, n, belief)
    return tuple([fraction(top, bottom) for top in tops])


def turned_if_odd(one, many):
    """A fraction, with its sign turned where many is odd."""
    return (-one[0], one[1]) if many & 1 == 1 else one


def share_by_inner(table, some):
    """The share of a set by a table that adds up the shares of all sets within."""
    return total([turned_if_odd(table[inner], size_of(some ^ inner)) for inner in sets_within(some)])


def share_by_outer(n, table, some):
    """The share of a set by a table that adds up the shares of all sets around."""
    others = sets_within(all_cases(n) ^ some)
    return total([turned_if_odd(table[some | more], size_of(more)) for more in others])


def share_by(word, n, table, some):
    """The share of a set by a table of "surely", "common" or "held"."""
    if word == "common":
        return share_by_outer(n, table, some)
    if word == "surely" and some == NONE:
        return minus(ONE, table[all_cases(n)])
    return share_by_inner(table, some)


def surely_by_may(n, table):
    """The table of "surely" by that of "may"."""
    most = table[all_cases(n)]
    return tuple([minus(most, table[all_cases(n) ^ some]) for some in range(all_cases(n) + 1)])


def belief_by(word, n, table):
    """The one belief of n cases that has this table of this word."""
    if word in ("surely", "may") and table[NONE] != NOUGHT:
        raise NoBelief("none", NONE)
    if word == "may":
        return belief_by("surely", n, surely_by_may(n, table))
    sums = []
    for some in range(all_cases(n) + 1):
        share = share_by(word, n, table, some)
        # Refused here and not behind the loop: this is the least set, and the rest would be work for nothing.
        if share[0] < 0:
            raise NoBelief("below", some)
        sums.append((some, share))
    return belief_of_sums(sums)


def turned(word, other, n, table):
    """A table of one word as the table of another one, of the same belief."""
    return table_of(other, n, belief_by(word, n, table))
