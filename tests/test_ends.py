"""[58], layings at the ends and between."""

import random
import unittest
from fractions import Fraction

from beliefsets.ends import end_layings, laying_at
from beliefsets.keeping import kept_paper
from beliefsets.spreads import is_laying
from samples import Case, as_number, as_pair
from test_keeping import plain_level
from test_spreads import HALF, NOUGHT, ONE, THIRD, closed, plain_is_laying, plain_levels_of
from test_tables import plain_table

TINY = Fraction(1, 9999)


def long_belief(chance, n, figures):
    """A closed belief of all sets of n cases but NONE, with long shares."""
    tops = [chance.randrange(1, 10 ** figures) for some in range(2 ** n - 1)]
    return tuple((some, as_pair(Fraction(top, sum(tops)))) for some, top in enumerate(tops, 1))


class Ends(Case):
    def judge_laying(self, n, belief, some, laying, level):
        self.assertTrue(plain_is_laying(n, belief, laying), (n, belief, some, laying))
        self.tells(True, is_laying, n, belief, laying)
        self.assertEqual(plain_level(plain_levels_of(n, laying), some), level)

    def judge_ends(self, n, belief, some, surely, may):
        found = self.ask(end_layings, n, belief, some)
        self.assertIs(type(found), tuple)
        self.assertEqual(len(found), 2)
        self.judge_laying(n, belief, some, found[0], surely)
        self.judge_laying(n, belief, some, found[1], may)

    def judge_at(self, n, belief, some, level):
        laying = self.ask(laying_at, n, belief, some, as_pair(level))
        self.assertIsNotNone(laying, (n, belief, some, level))
        self.judge_laying(n, belief, some, laying, level)

    def judge(self, n, belief, some, surely, may):
        self.judge_ends(n, belief, some, surely, may)
        for part in (Fraction(0), Fraction(1), Fraction(1, 2), TINY, 1 - TINY, Fraction(5, 7)):
            self.judge_at(n, belief, some, surely + (may - surely) * part)
        for beyond in (surely - TINY, may + TINY, Fraction(-1, 3), Fraction(4, 3), Fraction(-9999), Fraction(9999),
                       surely - 1, may + 1):
            self.tells(None, laying_at, n, belief, some, as_pair(beyond))

    def test_each_set_of_any_closed_belief(self):
        chance = random.Random(1600)
        for n in range(1, 7):
            found = [((2 ** n - 1, ONE),), ((1, ONE),), tuple((some, (1, 2 ** n - 1)) for some in range(1, 2 ** n))]
            for belief in found + [closed(chance, n, many=many) for many in (2, 5, 16)]:
                surely, may = plain_table("surely", n, belief), plain_table("may", n, belief)
                for some in range(2 ** n) if n < 6 else [0, 63] + chance.sample(range(1, 63), 20):
                    self.judge(n, belief, some, as_number(surely[some]), as_number(may[some]))

    def test_none_and_all(self):
        for n in range(1, 7):
            belief = closed(random.Random(1610 + n), n)
            self.judge(n, belief, 0, Fraction(0), Fraction(0))
            self.judge(n, belief, 2 ** n - 1, Fraction(1), Fraction(1))
            for level in (NOUGHT, (1, 9999), HALF, ONE, (-1, 9999)):
                self.assertEqual(laying_at(n, belief, 0, level) is None, level != NOUGHT)
                self.assertEqual(laying_at(n, belief, 2 ** n - 1, level) is None, level != ONE)

    def test_by_hand(self):
        belief = ((1, HALF), (3, THIRD), (4, (1, 6)))
        rows = ((HALF, NOUGHT, NOUGHT), (NOUGHT, THIRD, NOUGHT), (NOUGHT, NOUGHT, (1, 6)))
        other = ((HALF, NOUGHT, NOUGHT), (THIRD, NOUGHT, NOUGHT), (NOUGHT, NOUGHT, (1, 6)))
        self.tells((rows, other), end_layings, 3, belief, 1)
        self.tells((other, rows), end_layings, 3, belief, 2)
        self.tells(rows, laying_at, 3, belief, 1, HALF)
        self.tells(other, laying_at, 3, belief, 1, (5, 6))
        middle = ((HALF, NOUGHT, NOUGHT), ((1, 6), (1, 6), NOUGHT), (NOUGHT, NOUGHT, (1, 6)))
        self.tells(middle, laying_at, 3, belief, 1, (2, 3))
        self.tells(None, laying_at, 3, belief, 1, (5001, 5999))
        self.tells(None, laying_at, 3, belief, 1, THIRD)

    def test_levels_a_little_beside(self):
        belief = ((1, (1, 9973)), (3, (9971, 9973)), (2, (1, 9973)))
        belief = tuple(sorted(belief))
        for level, there in (((1, 9973), True), ((9972, 9973), True), ((1, 9974), False), ((9973, 9974), False),
                             ((1, 9972), True), ((9971, 9972), True)):
            self.assertEqual(laying_at(2, belief, 1, level) is not None, there)

    def test_many_sets_and_long_shares(self):
        chance = random.Random(1620)
        belief = long_belief(chance, 6, 190)
        surely, may = plain_table("surely", 6, belief), plain_table("may", 6, belief)
        for some in (1, 6, 21, 62):
            self.judge_ends(6, belief, some, as_number(surely[some]), as_number(may[some]))
            self.judge_at(6, belief, some, (as_number(surely[some]) + as_number(may[some])) / 2)

    def test_no_other_level_keeps_the_belief(self):
        # Levels below surely of a set, or above may, don't keep the belief; those that were told do.
        belief = ((1, HALF), (6, THIRD), (7, (1, 6)))
        for top in range(0, 13):
            level = Fraction(top, 12)
            laying = laying_at(3, belief, 1, as_pair(level))
            levels = (as_pair(level), as_pair((1 - level) / 2), as_pair((1 - level) / 2))
            self.assertEqual(laying is None, kept_paper(3, belief, levels)[0] == "lacks")


if __name__ == "__main__":
    unittest.main()
