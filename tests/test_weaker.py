"""[40], weaker beliefs and simple ones."""

import random
import unittest
from fractions import Fraction

from beliefsets.weaker import simple, weaker
from samples import Case, as_belief, as_map, as_number, as_pair, sample, samples

SHARES = ((0, 1), (1, 1), (1, 2), (9999, 10000), (1, 99999999), (99999998, 99999999), (12345678, 98765431))


def plain_weaker(n, belief, share):
    found = {some: one * as_number(share) for some, one in as_map(belief).items()}
    everything = frozenset(range(n))
    found[everything] = found.get(everything, Fraction(0)) + 1 - as_number(share)
    return as_belief(found)


def any_share(chance):
    bottom = chance.randint(1, 99999999)
    return as_pair(Fraction(chance.randint(0, bottom), bottom))


class Weaker(Case):
    def test_any_belief(self):
        chance = random.Random(900)
        for n in range(1, 7):
            for belief in samples(910 + n, n, 6):
                for share in SHARES + (any_share(chance),):
                    self.tells(plain_weaker(n, belief, share), weaker, n, belief, share)

    def test_by_one_and_by_nought(self):
        for n in range(1, 7):
            for belief in samples(920 + n, n, 6):
                self.tells(belief, weaker, n, belief, (1, 1))
                self.tells(((2 ** n - 1, (1, 1)),), weaker, n, belief, (0, 1))

    def test_one_behind_another(self):
        chance = random.Random(930)
        for n in range(1, 7):
            for k in range(8):
                belief = sample(chance, n)
                one, other = any_share(chance), chance.choice(SHARES)
                product = as_pair(as_number(one) * as_number(other))
                self.tells(plain_weaker(n, belief, product), weaker, n, weaker(n, belief, one), other)

    def test_with_and_without_all_and_clash(self):
        half, third = (1, 2), (1, 3)
        self.tells(((1, (1, 6)), (2, (1, 6)), (3, (2, 3))), weaker, 2, ((1, half), (2, half)), third)
        self.tells(((1, (1, 6)), (3, (5, 6))), weaker, 2, ((1, half), (3, half)), third)
        self.tells(((0, (1, 3)), (3, (2, 3))), weaker, 2, ((0, (1, 1)),), third)
        self.tells(((0, (1, 6)), (1, (5, 6))), weaker, 1, ((0, half), (1, half)), third)


class Simple(Case):
    def test_each_set(self):
        chance = random.Random(940)
        for n in range(1, 7):
            everything = 2 ** n - 1
            for some in range(2 ** n):
                for share in ((0, 1), (1, 1), (1, 3), (1, 99999999), any_share(chance)):
                    wanted = plain_weaker(n, ((some, (1, 1)),), as_pair(1 - as_number(share)))
                    self.tells(wanted, simple, n, some, share)
            self.tells(((everything, (1, 1)),), simple, n, everything, (2, 5))

    def test_the_edges(self):
        self.tells(((1, (2, 3)), (7, (1, 3))), simple, 3, 1, (1, 3))
        self.tells(((1, (1, 1)),), simple, 3, 1, (0, 1))
        self.tells(((7, (1, 1)),), simple, 3, 1, (1, 1))
        self.tells(((0, (2, 3)), (7, (1, 3))), simple, 3, 0, (1, 3))
        self.tells(((0, (1, 1)),), simple, 3, 0, (0, 1))
        self.tells(((1, (1, 1)),), simple, 1, 1, (0, 1))


if __name__ == "__main__":
    unittest.main()
