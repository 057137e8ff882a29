"""[10], fractions, and the kinds of [3] that they rest on."""

import random
import unittest
from fractions import Fraction

from beliefsets.errors import NoFraction
from beliefsets.fractions import fraction, is_fraction, is_less, is_share, minus, over, plus, times, total
from samples import ODD_THINGS, Case, as_number, as_pair, deep, long_thing

LONG = 10 ** 599 + 7


def some_fractions(seed, many):
    chance = random.Random(seed)
    found = [(0, 1), (1, 1), (-1, 1), (1, 2), (-1, 2), (LONG, 10 ** 598), (-(10 ** 598), LONG)]
    for k in range(many):
        size = chance.choice((10, 10 ** 4, 10 ** 300))
        found.append(as_pair(Fraction(chance.randint(-size, size), chance.randint(1, size))))
    return found


class Kinds(Case):
    def test_right_fractions(self):
        for one in some_fractions(1, 60) + [(5, 1), (-7, 3), (10 ** 599, 10 ** 599 + 1), (2, 1)]:
            self.tells(True, is_fraction, one)

    def test_other_things_are_no_fractions(self):
        for thing in ODD_THINGS + (deep(60), long_thing(), [0, 1], [1, 2], (3, 6), (10 ** 599, 10 ** 598), (1, 2, 1)):
            self.tells(False, is_fraction, thing)
            self.tells(False, is_share, thing)

    def test_shares_are_from_nought_to_one(self):
        for one in ((0, 1), (1, 1), (1, 2), (999, 1000), (10 ** 599 - 1, 10 ** 599)):
            self.tells(True, is_share, one)
        for one in ((2, 1), (-1, 1), (3, 2), (-1, 2), (10 ** 599, 10 ** 599 - 1), (-(10 ** 599), 1), (1001, 1000)):
            self.tells(True, is_fraction, one)
            self.tells(False, is_share, one)


class Made(Case):
    def test_of_two_whole_numbers(self):
        for top in range(-12, 13):
            for bottom in list(range(-12, 0)) + list(range(1, 13)):
                self.tells(as_pair(Fraction(top, bottom)), fraction, top, bottom)
        self.tells((3, 2), fraction, 3 * LONG, 2 * LONG)
        self.tells((-3, 2), fraction, 3 * LONG, -2 * LONG)
        self.tells((0, 1), fraction, 0, -LONG)

    def test_bottom_nought_is_refused(self):
        for top in (0, 1, -1, LONG):
            self.refuses(NoFraction, {}, fraction, top, 0)


class Reckoned(Case):
    def test_of_two_fractions(self):
        found = some_fractions(2, 12)
        for one in found:
            for other in found:
                a, b = as_number(one), as_number(other)
                self.tells(as_pair(a + b), plus, one, other)
                self.tells(as_pair(a - b), minus, one, other)
                self.tells(as_pair(a * b), times, one, other)
                self.tells(a < b, is_less, one, other)
                if b != 0:
                    self.tells(as_pair(a / b), over, one, other)

    def test_divided_by_nought_is_refused(self):
        for one in ((0, 1), (1, 2), (-3, 1)):
            self.refuses(NoFraction, {}, over, one, (0, 1))

    def test_total_of_lists_and_tuples(self):
        chance = random.Random(3)
        for kind in (list, tuple):
            self.tells((0, 1), total, kind())
            for many in (1, 2, 3, 7, 40):
                some = [chance.choice(some_fractions(many, 30)) for k in range(many)]
                self.tells(as_pair(sum(as_number(one) for one in some)), total, kind(some))
        self.tells((0, 1), total, [(1, 2), (-1, 3), (-1, 6)])
        self.tells((1, 1), total, ((1, 2), (1, 3), (1, 6)))


if __name__ == "__main__":
    unittest.main()
