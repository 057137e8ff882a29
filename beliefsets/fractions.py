"""Fractions: tuples (top, bottom) of whole numbers, in lowest terms, bottom above nought."""

from beliefsets.errors import NoFraction

NOUGHT = (0, 1)
ONE = (1, 1)


def is_whole(thing):
    """Whether a thing is a whole number: an int that is no truth."""
    return isinstance(thing, int) and not isinstance(thing, bool)


def is_below(many, thing):
    """Whether any thing is a whole number from 0 on, below many."""
    return is_whole(thing) and 0 <= thing < many


def common_divisor(one, other):
    """The greatest common divisor of two whole numbers, that of nought and nought being 0."""
    while other != 0:
        one, other = other, one % other
    return abs(one)


def is_fraction(thing):
    """Whether any thing is a FRACTION."""
    if not isinstance(thing, tuple) or len(thing) != 2:
        return False
    top, bottom = thing
    if not is_whole(top) or not is_whole(bottom):
        return False
    return bottom >= 1 and common_divisor(top, bottom) == 1


def is_share(thing):
    """Whether any thing is a SHARE: a fraction from nought to one."""
    return is_fraction(thing) and 0 <= thing[0] <= thing[1]


def fraction(top, bottom):
    """The fraction of top divided by bottom."""
    if bottom == 0:
        raise NoFraction()
    divisor = common_divisor(top, bottom)
    if bottom < 0:
        divisor = -divisor
    return (top // divisor, bottom // divisor)


def plus(one, other):
    """The sum of two fractions."""
    return fraction(one[0] * other[1] + other[0] * one[1], one[1] * other[1])


def minus(one, other):
    """One fraction less another one."""
    return fraction(one[0] * other[1] - other[0] * one[1], one[1] * other[1])


def times(one, other):
    """Two fractions multiplied."""
    return fraction(one[0] * other[0], one[1] * other[1])


def over(one, other):
    """One fraction divided by another one."""
    return fraction(one[0] * other[1], one[1] * other[0])


def is_less(one, other):
    """Whether one fraction is less than another one."""
    return one[0] * other[1] < other[0] * one[1]


def on_one_bottom(some):
    """The tops of fractions over one bottom that serves them all, a list, and that bottom.

    Long sums are taken of these: to find lowest terms once costs far less than at each step.
    """
    bottom = 1
    for one in some:
        if bottom % one[1] != 0:
            bottom = bottom // common_divisor(bottom, one[1]) * one[1]
    return [one[0] * (bottom // one[1]) for one in some], bottom


def total(some):
    """The sum of a list or tuple of fractions."""
    tops, bottom = on_one_bottom(some)
    return fraction(sum(tops), bottom)


def is_near(some, whole):
    """Whether the sum of fractions could be a fraction, by a rough look at each of them."""
    rough = sum([(one[0] << 64) // one[1] for one in some])
    # Each division leaves out less than 1, so the rough sum lacks less than one for each fraction.
    return 0 <= (whole[0] << 64) // whole[1] - rough <= len(some)


def come_to(some, whole):
    """Whether the sum of fractions is just a fraction."""
    # Of many long fractions, as any thing may have them, one bottom is very long: what is far off is told without it.
    if not is_near(some, whole):
        return False
    tops, bottom = on_one_bottom(some)
    return sum(tops) * whole[1] == whole[0] * bottom


def come_to_one(some):
    """Whether the sum of fractions is one."""
    return come_to(some, ONE)
