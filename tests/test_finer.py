"""[45], [46], maps, and beliefs told finer and coarser."""

import random
import unittest
from fractions import Fraction

from beliefsets.finer import coarser, finer, image, is_map, shadow
from beliefsets.joining import both, either
from beliefsets.tables import table_of
from beliefsets.weaker import weaker
from samples import (ODD_THINGS, Case, as_belief, as_map, cases, deep, is_plain_number, long_thing, number_of, sample,
                     samples, spoiled)

SIZES = [(n, m) for n in range(1, 7) for m in range(n, 7)]


def plain_is_map(n, m, thing):
    if type(thing) is not tuple or len(thing) != n:
        return False
    if not all(is_plain_number(cell, 1, 2 ** m) for cell in thing):
        return False
    found = [case for cell in thing for case in cases(cell)]
    return sorted(found) == list(range(m))


def plain_image(cells, some):
    return frozenset(case for k in cases(some) for case in cases(cells[k]))


def plain_shadow(cells, some):
    return frozenset(k for k, cell in enumerate(cells) if cases(cell) & cases(some))


def plain_told(place, cells, belief):
    found = {}
    for some, share in belief:
        where = place(cells, some)
        found[where] = found.get(where, Fraction(0)) + Fraction(*share)
    return as_belief(found)


def plain_finer(cells, belief):
    return plain_told(plain_image, cells, belief)


def plain_coarser(cells, belief):
    return plain_told(plain_shadow, cells, belief)


def any_map(chance, n, m):
    """Any map of n cases to m, n no more than m."""
    homes = list(range(n)) + [chance.randrange(n) for k in range(m - n)]
    chance.shuffle(homes)
    return tuple(sum(2 ** case for case in range(m) if homes[case] == k) for k in range(n))


class Maps(Case):
    def test_right_ones(self):
        chance = random.Random(1100)
        for n, m in SIZES:
            for k in range(5):
                self.tells(True, is_map, n, m, any_map(chance, n, m))
        self.tells(True, is_map, 1, 1, (1,))
        self.tells(True, is_map, 1, 6, (63,))
        self.tells(True, is_map, 6, 6, (32, 1, 2, 16, 4, 8))

    def test_wrong_ones(self):
        for thing in ((1, 2), (1, 2, 4, 0), (3, 8), [1, 6], (1, 3, 4), (0, 7), (7, 0), (1, 2), (1, 14), (1, -2), (1, 5),
                      (True, 6), (6, True), ((1,), 6), ("1", 6), (1, None), (7,), (1, 2, 4), (3, 6), (5, 7), None, 7):
            self.tells(False, is_map, 2, 3, thing)
        self.tells(False, is_map, 1, 1, (True,))
        self.tells(False, is_map, 2, 1, (1, 1))
        self.tells(False, is_map, 2, 1, (1, 0))
        self.tells(False, is_map, 1, 6, (31,))
        self.tells(False, is_map, 1, 5, (63,))

    def test_any_thing(self):
        for thing in ODD_THINGS + (deep(60),):
            for n, m in SIZES:
                self.tells(plain_is_map(n, m, thing), is_map, n, m, thing)
        for thing in (long_thing(), (1,) * 99999, (1, 2) + (4,) * 99997):
            self.tells(False, is_map, 3, 3, thing)

    def test_spoiled_maps(self):
        chance = random.Random(1110)
        for n, m in SIZES:
            for thing in spoiled(any_map(chance, n, m)):
                for a in (n - 1, n, n + 1):
                    for b in (m - 1, m, m + 1):
                        if 1 <= a <= 6 and 1 <= b <= 6:
                            self.tells(plain_is_map(a, b, thing), is_map, a, b, thing)


class ImagesAndShadows(Case):
    def test_each_set(self):
        chance = random.Random(1120)
        for n, m in SIZES:
            cells = any_map(chance, n, m)
            for some in range(2 ** n):
                self.tells(number_of(plain_image(cells, some)), image, cells, some)
            for some in range(2 ** m):
                self.tells(number_of(plain_shadow(cells, some)), shadow, cells, some)
            self.tells(0, image, cells, 0)
            self.tells(0, shadow, cells, 0)
            self.tells(2 ** m - 1, image, cells, 2 ** n - 1)
            self.tells(2 ** n - 1, shadow, cells, 2 ** m - 1)


class FinerAndCoarser(Case):
    def test_any_belief(self):
        chance = random.Random(1130)
        for n, m in SIZES:
            cells = any_map(chance, n, m)
            for belief in samples(1140 + n, n, 3):
                self.tells(plain_finer(cells, belief), finer, cells, belief)
                self.tells(belief, coarser, cells, finer(cells, belief))
            for belief in samples(1150 + m, m, 3):
                self.tells(plain_coarser(cells, belief), coarser, cells, belief)

    def test_by_hand(self):
        half, quarter = (1, 2), (1, 4)
        self.tells(((0, quarter), (3, half), (4, quarter)), finer, (4, 3), ((0, quarter), (1, quarter), (2, half)))
        # Two unlike sets that meet the same cells have one shadow.
        self.tells(((2, (1, 1)),), coarser, (4, 3), ((1, half), (2, half)))
        self.tells(((0, half), (3, half)), coarser, (4, 3), ((0, half), (5, quarter), (6, quarter)))

    def test_joined_and_weaker(self):
        chance = random.Random(1160)
        for n, m in SIZES:
            cells = any_map(chance, n, m)
            for k in range(3):
                one, other = sample(chance, n), sample(chance, n)
                for function in (both, either):
                    self.tells(function(finer(cells, one), finer(cells, other)), finer, cells, function(one, other))
                self.tells(weaker(m, finer(cells, one), (2, 7)), finer, cells, weaker(n, one, (2, 7)))
                one, other = sample(chance, m), sample(chance, m)
                self.tells(either(coarser(cells, one), coarser(cells, other)), coarser, cells, either(one, other))

    def test_tables(self):
        chance = random.Random(1170)
        for n, m in SIZES:
            cells = any_map(chance, n, m)
            for k in range(2):
                fine = sample(chance, m)
                for word in ("surely", "may", "held"):
                    table = table_of(word, m, fine)
                    wanted = tuple(table[number_of(plain_image(cells, some))] for some in range(2 ** n))
                    self.tells(wanted, table_of, word, n, coarser(cells, fine))
                belief = sample(chance, n)
                table = table_of("common", n, belief)
                wanted = tuple(table[number_of(plain_shadow(cells, some))] for some in range(2 ** m))
                self.tells(wanted, table_of, "common", m, finer(cells, belief))

    def test_each_cell_of_one_case(self):
        chance = random.Random(1180)
        for n in range(1, 7):
            belief = sample(chance, n)
            cells = tuple(2 ** k for k in range(n))
            self.tells(belief, finer, cells, belief)
            self.tells(belief, coarser, cells, belief)
            self.assertEqual(sum(as_map(finer(cells, belief)).values()), 1)


if __name__ == "__main__":
    unittest.main()
