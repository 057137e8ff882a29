"""Sets of cases: whole numbers whose figures, written by twos, tell the cases."""

from beliefsets.fractions import is_below, is_whole

NONE = 0


def all_cases(n):
    """ALL, the set of all of n cases."""
    return (1 << n) - 1


def is_set(n, thing):
    """Whether any thing is a SET of n cases."""
    return is_whole(thing) and 0 <= thing <= all_cases(n)


def has_case(some, case):
    """Whether a case is in a set."""
    return (some >> case) & 1 == 1


def cases_in(some):
    """The cases of a set, a rising list."""
    return [case for case in range(some.bit_length()) if has_case(some, case)]


def size_of(some):
    """How many cases a set has."""
    return len(cases_in(some))


def sets_within(some):
    """All sets within a set, a rising list."""
    found = [NONE]
    for case in cases_in(some):
        found = found + [inner | (1 << case) for inner in found]
    return found


def set_of(cases):
    """The set of cases, in whatever order and however often they are told."""
    some = NONE
    for case in cases:
        some = some | (1 << case)
    return some


def is_within(one, other):
    """Whether one set is within another one."""
    return one & other == one


def is_rising_row(many, thing):
    """Whether any thing is a tuple, perhaps void, of rising whole numbers from 0 on, below many."""
    if not isinstance(thing, tuple) or len(thing) > many:
        return False
    ahead = -1
    for number in thing:
        if not is_below(many, number) or number <= ahead:
            return False
        ahead = number
    return True
