"""[12], [13], beliefs, and the kinds of [3]."""

import random
import unittest
from fractions import Fraction

from beliefsets.beliefs import belief_of, core_of, is_belief, is_closed, is_wide, share_of, silent
from beliefsets.errors import NoBelief
from samples import ODD_THINGS, Case, as_belief, as_map, as_number, as_pair, cases, deep, long_thing, number_of, samples

LONG = 10 ** 599


class IsBelief(Case):
    def test_right_ones(self):
        for n in range(1, 7):
            for belief in samples(20 + n, n, 20):
                self.tells(True, is_belief, n, belief)

    def test_asked_of_another_n(self):
        for n in range(1, 6):
            for belief in samples(30 + n, n, 8):
                self.tells(True, is_belief, n + 1, belief)
        for n in range(2, 7):
            for belief in samples(40 + n, n, 8):
                self.tells(belief[-1][0] < 2 ** (n - 1), is_belief, n - 1, belief)
        self.tells(False, is_belief, 2, ((4, (1, 1)),))
        self.tells(True, is_belief, 3, ((4, (1, 1)),))

    def test_long_shares(self):
        long = ((1, (LONG // 10 - 1, LONG // 10)), (3, (1, LONG // 10)))
        self.tells(True, is_belief, 2, long)
        self.tells(False, is_belief, 2, long[:1] + ((3, (1, LONG // 10 + 1)),))

    def test_other_things(self):
        half, one = (1, 2), (1, 1)
        things = ODD_THINGS + (
            deep(60), long_thing(), [(1, one)], ([1, one],), ((1, [1, 1]),), ((True, one),), ((False, one),),
            ((1, (True, 1)),), ((1, (1, True)),), ((1, (True, True)),), ((1, one, 1),), ((1,),), (1, one), ((1, 1),),
            ((1, (2, 2)),), ((1, half), (2, (2, 4))), ((1, half),), ((1, half), (1, half)), ((2, half), (1, half)),
            ((1, one), (2, (0, 1))), ((0, (0, 1)), (1, one)), ((1, (3, 2)), (2, (-1, 2))), ((1, half), (2, (1, 3))),
            ((1, half), (2, half), (3, half)), ((-1, one),), ((4, one),), ((1, half), (4, half)), (("1", one),),
            ((None, one),), ((1, None),), ((1, "1"),), ((1, half), None), ((1, half), (2, half), ()), ((1, (1, 0)),),
        )
        for thing in things:
            self.tells(False, is_belief, 2, thing)


class BeliefOf(Case):
    def test_parts_of_one_set_are_added(self):
        chance = random.Random(50)
        for n in range(1, 7):
            for belief in samples(60 + n, n, 8):
                pairs = []
                for some, share in belief:
                    part = Fraction(chance.randint(-30, 30), chance.randint(1, 30))
                    pairs += [(some, as_pair(as_number(share) - part)), (some, as_pair(part))]
                for some in range(2 ** n):
                    pairs += [(some, (1, 7)), (some, (-1, 7))] if chance.randint(0, 1) else [(some, (0, 1))]
                chance.shuffle(pairs)
                self.tells(belief, belief_of, n, pairs)
        self.tells(((1, (1, 1)),), belief_of, 1, [(1, (1, 1))])

    def test_below_nought_goes_ahead_of_the_sum(self):
        half = (1, 2)
        self.refuses(NoBelief, {"word": "below", "set": 1}, belief_of, 2, [(3, (-1, 2)), (1, (-1, 3)), (0, half)])
        self.refuses(NoBelief, {"word": "below", "set": 0}, belief_of, 2, [(3, (1, 1)), (0, (-1, 9)), (1, (1, 9))])
        self.refuses(NoBelief, {"word": "below", "set": 3}, belief_of, 2, [(3, half), (1, (3, 2)), (3, (-1, 1))])
        pairs = [(2, (-1, LONG)), (3, (1, LONG)), (0, (1, 1))]
        self.refuses(NoBelief, {"word": "below", "set": 2}, belief_of, 2, pairs)

    def test_the_sum_must_be_one(self):
        for pairs in ([], [(1, (0, 1))], [(1, (1, 2))], [(1, (1, 1)), (2, (1, LONG))], [(1, (1, 1)), (0, (1, 1))],
                      [(1, (LONG - 1, LONG))], [(1, (1, 2)), (1, (-1, 2))]):
            self.refuses(NoBelief, {"word": "sum", "set": None}, belief_of, 2, pairs)

    def test_any_pairs(self):
        chance = random.Random(70)
        for n in (1, 2, 3):
            for k in range(300):
                pairs = [(chance.randrange(2 ** n), as_pair(Fraction(chance.randint(-1, 4), 4)))
                         for step in range(chance.randint(0, 6))]
                found = {}
                for some, one in pairs:
                    found[cases(some)] = found.get(cases(some), 0) + as_number(one)
                below = [number_of(some) for some in found if found[some] < 0]
                if below:
                    self.refuses(NoBelief, {"word": "below", "set": min(below)}, belief_of, n, pairs)
                elif sum(found.values()) != 1:
                    self.refuses(NoBelief, {"word": "sum", "set": None}, belief_of, n, pairs)
                else:
                    self.tells(as_belief(found), belief_of, n, pairs)


class ToldOfABelief(Case):
    def test_share_closed_wide_core(self):
        for n in range(1, 7):
            for belief in samples(80 + n, n, 12):
                mapping = as_map(belief)
                for some in range(2 ** n):
                    self.tells(as_pair(mapping.get(cases(some), Fraction(0))), share_of, belief, some)
                self.tells(frozenset() not in mapping, is_closed, belief)
                self.tells(frozenset(range(n)) in mapping, is_wide, n, belief)
                self.tells(number_of(frozenset().union(*mapping)), core_of, belief)

    def test_of_none_alone(self):
        self.tells(0, core_of, ((0, (1, 1)),))
        self.tells(False, is_closed, ((0, (1, 1)),))
        self.tells(False, is_wide, 1, ((0, (1, 1)),))

    def test_wide_hangs_on_n(self):
        self.tells(True, is_wide, 2, ((3, (1, 1)),))
        self.tells(False, is_wide, 3, ((3, (1, 1)),))

    def test_silent(self):
        for n in range(1, 7):
            self.tells(((2 ** n - 1, (1, 1)),), silent, n)


if __name__ == "__main__":
    unittest.main()
