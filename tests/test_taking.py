"""[24], [25], taken back, and the twins."""

import random
import unittest
from fractions import Fraction

from beliefsets.errors import NoElder
from beliefsets.joining import both, joined
from beliefsets.taking import taken, twins
from samples import Case, as_belief, as_map, as_number, as_pair, cases, number_of, sample, samples
from test_tables import plain_shares, plain_table


def plain_elder(n, whole, piece):
    """The shares of [24], a dict: whether they are an elder's is not looked at."""
    pairs = zip(plain_table("common", n, whole), plain_table("common", n, piece))
    return plain_shares("common", n, tuple(as_pair(as_number(a) / as_number(b)) for a, b in pairs))


class Taken(Case):
    def test_a_wide_piece_is_taken_back(self):
        chance = random.Random(700)
        for n in range(1, 7):
            for belief in samples(710 + n, n, 5):
                piece = sample(chance, n, must=[2 ** n - 1])
                self.tells(belief, taken, n, both(belief, piece), piece)
            self.tells(belief, taken, n, belief, ((2 ** n - 1, (1, 1)),))

    def test_one_of_several_pieces(self):
        chance = random.Random(720)
        for n in (2, 4, 6):
            pieces = [sample(chance, n, many=6, must=[2 ** n - 1], most=999) for k in range(5)]
            whole = joined("both", n, pieces)
            for k, piece in enumerate(pieces):
                rest = joined("both", n, pieces[:k] + pieces[k + 1:])
                self.tells(rest, taken, n, whole, piece)

    def test_long_shares(self):
        chance = random.Random(730)
        weights = [chance.randrange(1, 10 ** 290) for some in range(64)]
        belief = tuple((some, as_pair(Fraction(w, sum(weights)))) for some, w in enumerate(weights))
        tops = (1, 2, 3, 5, 7, 11, 999954)
        piece = tuple((some, as_pair(Fraction(top, 999983))) for some, top in zip(range(57, 64), tops))
        self.tells(belief, taken, 6, both(belief, piece), piece)

    def test_a_piece_that_is_not_wide_is_blind(self):
        chance = random.Random(740)
        for n in range(1, 7):
            everything = 2 ** n - 1
            for k in range(6):
                piece = sample(chance, n, without=[everything])
                for whole in (both(sample(chance, n), piece), sample(chance, n), piece):
                    self.refuses(NoElder, {"word": "blind", "set": everything}, taken, n, whole, piece)

    def test_wholes_that_came_of_something_else(self):
        chance = random.Random(750)
        seen = {}
        for n in range(1, 7):
            for k in range(25):
                piece = sample(chance, n, many=chance.randint(1, 6), must=[2 ** n - 1])
                whole = sample(chance, n)
                shares = plain_elder(n, whole, piece)
                self.assertEqual(sum(shares.values()), 1)
                below = [number_of(some) for some in shares if shares[some] < 0]
                seen[bool(below)] = True
                if below:
                    self.refuses(NoElder, {"word": "below", "set": min(below)}, taken, n, whole, piece)
                else:
                    self.tells(as_belief(shares), taken, n, whole, piece)
        self.assertEqual(len(seen), 2)

    def test_the_least_set_below(self):
        half = (1, 2)
        self.refuses(NoElder, {"word": "below", "set": 1}, taken, 2, ((3, (1, 1)),), ((1, half), (3, half)))
        self.refuses(NoElder, {"word": "below", "set": 0}, taken, 1, ((1, (1, 1)),), ((0, half), (1, half)))
        self.refuses(NoElder, {"word": "blind", "set": 3}, taken, 2, ((3, (1, 1)),), ((1, half), (2, half)))


class Twins(Case):
    def test_even_and_odd(self):
        for n in range(1, 7):
            share = as_pair(Fraction(1, 2 ** (n - 1)))
            wanted = [tuple((some, share) for some in range(2 ** n) if len(cases(some)) % 2 == odd) for odd in (0, 1)]
            self.tells(tuple(wanted), twins, n)
        self.tells((((0, (1, 1)),), ((1, (1, 1)),)), twins, 1)

    def test_no_piece_that_is_not_wide_tells_them_apart(self):
        chance = random.Random(760)
        for n in range(1, 7):
            even, odd = twins(n)
            self.assertNotEqual(even, odd)
            for k in range(8):
                piece = sample(chance, n, without=[2 ** n - 1])
                self.assertEqual(both(even, piece), both(odd, piece))
                wide = sample(chance, n, must=[2 ** n - 1])
                self.assertNotEqual(both(even, wide), both(odd, wide))

    def test_their_commons_are_unlike_at_all_alone(self):
        for n in range(1, 7):
            even, odd = (plain_table("common", n, belief) for belief in twins(n))
            self.assertEqual([k for k in range(2 ** n) if even[k] != odd[k]], [2 ** n - 1])
            self.assertEqual(sum(as_map(twins(n)[0]).values()), 1)


if __name__ == "__main__":
    unittest.main()
