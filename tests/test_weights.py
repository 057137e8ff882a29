"""[41], [42], [43], weights, the belief by them, and the least committed of two."""

import itertools
import random
import unittest
from fractions import Fraction

from beliefsets.errors import NoBelief
from beliefsets.joining import both
from beliefsets.weaker import simple
from beliefsets.weights import by_weights, least, weights
from samples import Case, as_belief, as_map, as_number, as_pair, cases, number_of
from test_tables import plain_shares, plain_table


def plain_weights(n, belief):
    """The sentence of [41], over Fractions."""
    commons = [as_number(one) for one in plain_table("common", n, belief)]
    found = []
    for some in range(2 ** n - 1):
        weight = Fraction(1)
        for outer in range(2 ** n):
            if cases(some) <= cases(outer):
                odd = len(cases(outer) - cases(some)) % 2 == 1
                weight = weight * commons[outer] if odd else weight / commons[outer]
        found.append(as_pair(weight))
    return tuple(found)


def plain_by(n, some):
    """The shares of [42], a dict: whether they are a belief's is not looked at."""
    table = []
    for outer in range(2 ** n):
        common = Fraction(1)
        for inner, weight in enumerate(some):
            if not cases(outer) <= cases(inner):
                common *= as_number(weight)
        table.append(as_pair(common))
    return plain_shares("common", n, tuple(table))


def wide(chance, n, many=None, clash=None):
    """A wide belief whose shares, on one bottom, have one of at most three figures."""
    inner = list(range(1, 2 ** n - 1))
    picked = chance.sample(inner, min(len(inner), chance.randint(0, 14) if many is None else many))
    if chance.randint(0, 1) if clash is None else clash:
        picked.append(0)
    tops = [chance.randint(1, 60) for some in picked] + [chance.randint(1, 60)]
    bottom = sum(tops)
    return tuple(sorted((some, as_pair(Fraction(top, bottom))) for some, top in zip(picked + [2 ** n - 1], tops)))


def lesser(ones, others):
    return tuple(min(a, b, key=as_number) for a, b in zip(ones, others))


class Weights(Case):
    def test_wide_beliefs(self):
        chance = random.Random(950)
        for n in range(1, 5):
            for k in range(25):
                belief = wide(chance, n)
                self.tells(plain_weights(n, belief), weights, n, belief)
            full = tuple((some, (1, 2 ** n)) for some in range(2 ** n))
            self.tells(plain_weights(n, full), weights, n, full)

    def test_by_hand(self):
        half = (1, 2)
        # COMMON is 1, 3/4, 3/4, 1/2.
        belief = ((1, (1, 4)), (2, (1, 4)), (3, half))
        self.tells(((9, 8), (2, 3), (2, 3)), weights, 2, belief)
        self.tells(((1, 2),), weights, 1, ((0, half), (1, half)))
        self.tells(((1, 2), (1, 1), (1, 1)), weights, 2, ((0, half), (3, half)))

    def test_silent_and_simple(self):
        for n in range(1, 5):
            ones = [(1, 1)] * (2 ** n - 1)
            self.tells(tuple(ones), weights, n, ((2 ** n - 1, (1, 1)),))
            for some in range(2 ** n - 1):
                for share in ((1, 2), (1, 999), (998, 999), (1, 1)):
                    wanted = ones[:some] + [share] + ones[some + 1:]
                    self.tells(tuple(wanted), weights, n, simple(n, some, share))

    def test_both_multiplies(self):
        chance = random.Random(960)
        for n in range(1, 5):
            for k in range(12):
                one, other = wide(chance, n), wide(chance, n)
                wanted = tuple(as_pair(as_number(a) * as_number(b))
                               for a, b in zip(plain_weights(n, one), plain_weights(n, other)))
                self.tells(wanted, weights, n, both(one, other))


class ByWeights(Case):
    def judge(self, n, some):
        shares = plain_by(n, some)
        below = [number_of(one) for one in shares if shares[one] < 0]
        if below:
            self.refuses(NoBelief, {"word": "below", "set": min(below)}, by_weights, n, some)
            return None
        belief = self.ask(by_weights, n, some)
        self.assertEqual(belief, as_belief(shares))
        self.assertEqual(sum(as_map(belief).values()), 1)
        self.assertEqual(belief[-1][0], 2 ** n - 1)
        return belief

    def test_there_and_back(self):
        chance = random.Random(970)
        for n in range(1, 5):
            for k in range(15):
                belief = wide(chance, n)
                self.tells(belief, by_weights, n, weights(n, belief))

    def test_any_weights(self):
        chance = random.Random(980)
        seen = {}
        for n in range(1, 5):
            for k in range(60):
                low = chance.choice((1, 50, 900))
                some = tuple(as_pair(Fraction(chance.randint(low, 999), chance.randint(low, 999)))
                             if chance.randint(0, 2) else (1, chance.randint(1, 999)) for step in range(2 ** n - 1))
                belief = self.judge(n, some)
                seen[n, belief is None] = True
                if belief is not None:
                    self.tells(some, weights, n, belief)
        self.assertEqual(len(seen), 8)

    def test_above_one(self):
        self.refuses(NoBelief, {"word": "below", "set": 0}, by_weights, 1, ((2, 1),))
        self.tells(((1, (1, 1)),), by_weights, 1, ((1, 1),))
        # A weight above one at NONE is made good by those of the cases.
        self.tells(((1, (1, 4)), (2, (1, 4)), (3, (1, 2))), by_weights, 2, ((9, 8), (2, 3), (2, 3)))
        self.refuses(NoBelief, {"word": "below", "set": 0}, by_weights, 2, ((10, 8), (2, 3), (2, 3)))
        self.refuses(NoBelief, {"word": "below", "set": 1}, by_weights, 2, ((1, 2), (3, 2), (1, 1)))
        self.refuses(NoBelief, {"word": "below", "set": 2}, by_weights, 2, ((1, 2), (1, 1), (3, 2)))

    def test_fifty_figures(self):
        chance = random.Random(990)
        seen = {}
        for n in range(1, 5):
            for k in range(8):
                some = []
                for step in range(2 ** n - 1):
                    bottom = chance.randrange(10 ** 49, 10 ** 50)
                    top = chance.randrange(1, bottom) if k % 2 == 0 else chance.randrange(bottom - 10 ** 40, 10 ** 50)
                    some.append(as_pair(Fraction(top, bottom)))
                seen[self.judge(n, tuple(some)) is None] = True
        self.assertEqual(len(seen), 2)


class Least(Case):
    def test_two(self):
        chance = random.Random(1000)
        for n in range(1, 5):
            for k in range(12):
                one, other = wide(chance, n), wide(chance, n)
                wanted = lesser(plain_weights(n, one), plain_weights(n, other))
                found = self.ask(least, n, one, other)
                self.assertEqual(found, as_belief(plain_by(n, wanted)))
                self.tells(found, least, n, other, one)
                self.tells(wanted, weights, n, found)
                self.tells(one, least, n, one, one)
                self.tells(found, least, n, found, one)

    def test_by_hand(self):
        one, other = simple(2, 1, (1, 2)), simple(2, 2, (1, 3))
        self.tells(both(one, other), least, 2, one, other)
        self.tells(simple(2, 1, (1, 3)), least, 2, one, simple(2, 1, (1, 3)))
        self.tells(one, least, 2, one, ((3, (1, 1)),))

    def test_three_in_any_brackets(self):
        chance = random.Random(1010)
        for n in range(1, 5):
            for k in range(3):
                three = [wide(chance, n) for step in range(3)]
                wanted = least(n, three[0], least(n, three[1], three[2]))
                for a, b, c in itertools.permutations(three):
                    self.tells(wanted, least, n, least(n, a, b), c)
                    self.tells(wanted, least, n, a, least(n, b, c))

    def test_however_often(self):
        chance = random.Random(1020)
        found = wide(chance, 4, many=14)
        weight = plain_weights(4, found)
        for k in range(12):
            other = wide(chance, 4, many=chance.randint(1, 14))
            found = least(4, found, other)
            weight = lesser(weight, weights(4, other))
            self.tells(weight, weights, 4, found)


if __name__ == "__main__":
    unittest.main()
