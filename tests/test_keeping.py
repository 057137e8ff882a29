"""[57], kept papers, told and let by."""

import random
import unittest
from fractions import Fraction

from beliefsets.keeping import kept_paper
from beliefsets.keptchecker import lets_kept
from beliefsets.spreads import levels_of
from samples import ODD_THINGS, Case, alike, as_number, as_pair, cases, deep, is_plain_number, long_thing, spoiled
from test_spreads import (HALF, NOUGHT, ONE, THIRD, any_laying, any_levels, closed, plain_is_laying, plain_levels_of)
from test_tables import plain_table


def plain_level(levels, some):
    return sum([as_number(levels[case]) for case in cases(some)], Fraction(0))


def lacking_sets(n, belief, levels):
    """All sets whose level is below surely there."""
    table = plain_table("surely", n, belief)
    return [some for some in range(2 ** n) if plain_level(levels, some) < as_number(table[some])]


def plain_lets(n, belief, levels, thing):
    if type(thing) is not tuple or len(thing) != 2:
        return False
    if alike(thing[0], "laying"):
        return plain_is_laying(n, belief, thing[1]) and plain_levels_of(n, thing[1]) == levels
    if not alike(thing[0], "lacks") or not is_plain_number(thing[1], 0, 2 ** n):
        return False
    return thing[1] in lacking_sets(n, belief, levels)


class Lets(Case):
    def lets(self, wanted, n, belief, levels, thing):
        self.tells(wanted, lets_kept, n, belief, levels, thing)

    def test_a_laying(self):
        belief, levels = ((1, HALF), (3, HALF)), ((2, 3), THIRD)
        right = ((HALF, NOUGHT), ((1, 6), THIRD))
        self.lets(True, 2, belief, levels, ("laying", right))
        for thing in (("laying", ((HALF, NOUGHT), (HALF, NOUGHT))), ("laying", ((HALF, NOUGHT), ((1, 4), (1, 4)))),
                      ("laying", (levels,)), ("laying", (((2, 3), THIRD), (NOUGHT, NOUGHT))), ["laying", right],
                      ("laying", list(right)), ("laying",), ("laying", right, right), ("lacks", right), ("", right),
                      (right,), right, ("Laying", right), (None, right), ("laying", None), ("laying", ()), "laying"):
            self.lets(False, 2, belief, levels, thing)
        # It is a laying to these levels, but one of another belief.
        self.lets(False, 2, ((1, THIRD), (3, (2, 3))), levels, ("laying", right))
        self.lets(False, 2, ((1, HALF), (2, HALF)), levels, ("laying", right))
        # Its levels are others at the first, at the last case alone can't be.
        self.lets(False, 2, belief, (HALF, HALF), ("laying", right))

    def test_other_levels_at_some_cases(self):
        belief = ((7, ONE),)
        levels = (THIRD, THIRD, THIRD)
        self.lets(True, 3, belief, levels, ("laying", (levels,)))
        for row in ((THIRD, HALF, (1, 6)), (HALF, THIRD, (1, 6)), (HALF, (1, 6), THIRD)):
            self.lets(False, 3, belief, levels, ("laying", (row,)))

    def test_a_lack(self):
        belief, levels = ((1, HALF), (6, HALF)), (HALF, NOUGHT, HALF)
        for some in range(-1, 9):
            self.lets(False, 3, belief, levels, ("lacks", some))
        levels = (THIRD, THIRD, THIRD)
        for some in range(-1, 9):
            self.lets(some == 1, 3, belief, levels, ("lacks", some))
        levels = ((1, 8), (5, 8), (1, 4))
        for thing in (True, False, "1", (1,), [1], None, -7, 10 ** 599):
            self.lets(False, 3, belief, levels, ("lacks", thing))
        self.lets(True, 3, belief, levels, ("lacks", 1))
        # Level is just surely at 6 below, and above it at 5.
        self.lets(False, 3, belief, (HALF, HALF, NOUGHT), ("lacks", 6))
        self.lets(False, 3, belief, levels, ("lacks", 6))
        self.lets(True, 3, ((3, HALF), (6, HALF)), (NOUGHT, (1, 4), (3, 4)), ("lacks", 3))
        self.lets(False, 3, ((3, HALF), (6, HALF)), (NOUGHT, (1, 4), (3, 4)), ("lacks", 6))
        for thing in (["lacks", 1], ("lacks",), ("lacks", 1, 1), ("laying", 1), ("LACKS", 1), (1, "lacks"), ("", 1)):
            self.lets(False, 3, belief, levels, thing)

    def test_just_below(self):
        belief = ((1, HALF), (3, HALF))
        tiny = Fraction(1, 10 ** 199)
        for step, wanted in ((Fraction(0), False), (tiny, False), (-tiny, True)):
            levels = (as_pair(Fraction(1, 2) + step), as_pair(Fraction(1, 2) - step))
            self.lets(wanted, 2, belief, levels, ("lacks", 1))

    def test_any_thing(self):
        belief, levels = ((1, HALF), (3, HALF)), (THIRD, (2, 3))
        for thing in ODD_THINGS + (deep(60), long_thing()):
            self.lets(False, 2, belief, levels, thing)
            self.lets(False, 2, belief, levels, ("laying", thing))
            self.lets(False, 2, belief, levels, ("lacks", thing))

    def test_spoiled_papers(self):
        chance = random.Random(1500)
        seen = {}
        for n in range(1, 7):
            for k in range(6):
                belief = closed(chance, n, many=chance.randint(1, 4))
                levels = plain_levels_of(n, any_laying(chance, n, belief)) if k % 2 else any_levels(chance, n)
                paper = kept_paper(n, belief, levels)
                for thing in spoiled(paper):
                    wanted = plain_lets(n, belief, levels, thing)
                    seen[paper[0], wanted] = True
                    self.lets(wanted, n, belief, levels, thing)
        self.assertGreaterEqual(len(seen), 3)


class Paper(Case):
    def judge(self, n, belief, levels):
        paper = self.ask(kept_paper, n, belief, levels)
        lacks = lacking_sets(n, belief, levels)
        self.assertEqual(paper[0], "lacks" if lacks else "laying")
        self.assertTrue(plain_lets(n, belief, levels, paper), (n, belief, levels, paper))
        self.tells(True, lets_kept, n, belief, levels, paper)
        for some in range(2 ** n):
            self.tells(some in lacks, lets_kept, n, belief, levels, ("lacks", some))
        return paper[0]

    def test_levels_that_keep(self):
        chance = random.Random(1510)
        for n in range(1, 7):
            for k in range(20):
                belief = closed(chance, n, many=chance.randint(1, 16))
                levels = plain_levels_of(n, any_laying(chance, n, belief))
                self.assertEqual(self.judge(n, belief, levels), "laying")

    def test_levels_at_the_ends(self):
        chance = random.Random(1520)
        for n in range(1, 7):
            for k in range(10):
                belief = closed(chance, n, many=chance.randint(1, 16))
                order = list(range(n))
                chance.shuffle(order)
                # All of each share goes to the case of its set that is first in the order: an outermost laying.
                levels = [Fraction(0)] * n
                for some, share in belief:
                    levels[min(cases(some), key=order.index)] += as_number(share)
                self.assertEqual(self.judge(n, belief, tuple(as_pair(one) for one in levels)), "laying")
                if n > 1 and max(levels) < 1:
                    tiny = Fraction(1, 10 ** 12)
                    last = [case for case in order if levels[case] > 0][-1]
                    levels[last] -= tiny
                    levels[order[0]] += tiny
                    self.assertEqual(self.judge(n, belief, tuple(as_pair(one) for one in levels)), "lacks")

    def test_any_levels(self):
        chance = random.Random(1530)
        seen = {}
        for n in range(1, 7):
            for k in range(30):
                belief = closed(chance, n, many=chance.randint(1, 16 if k % 2 else 3))
                word = self.judge(n, belief, any_levels(chance, n))
                seen[n, word] = True
        self.assertEqual(len(seen), 11)

    def test_one_case_and_one_set(self):
        self.tells(("laying", ((ONE,),)), kept_paper, 1, ((1, ONE),), (ONE,))
        self.tells(("laying", ((THIRD, (2, 3)),)), kept_paper, 2, ((3, ONE),), (THIRD, (2, 3)))
        self.tells(("lacks", 1), kept_paper, 2, ((1, ONE),), (THIRD, (2, 3)))
        self.tells(("laying", ((ONE, NOUGHT),)), kept_paper, 2, ((1, ONE),), (ONE, NOUGHT))

    def test_a_share_that_must_give_way(self):
        # The first set could take all of case 0, which the second one needs.
        belief = ((3, HALF), (5, HALF))
        levels = (HALF, HALF, NOUGHT)
        self.tells(("laying", ((NOUGHT, HALF, NOUGHT), (HALF, NOUGHT, NOUGHT))), kept_paper, 3, belief, levels)
        self.assertEqual(self.judge(3, belief, (HALF, (1, 4), (1, 4))), "laying")
        self.assertEqual(self.judge(3, belief, (NOUGHT, (3, 4), (1, 4))), "lacks")

    def test_unlike_bottoms_and_many_sets(self):
        chance = random.Random(1540)
        for figures in (20, 190):
            tops = [chance.randrange(1, 10 ** figures) for some in range(63)]
            belief = tuple((some, as_pair(Fraction(top, sum(tops)))) for some, top in enumerate(tops, 1))
            levels = plain_levels_of(6, any_laying(chance, 6, belief))
            self.assertEqual(self.judge(6, belief, levels), "laying")
            weights = [chance.randrange(10 ** figures, 2 * 10 ** figures) for k in range(6)]
            self.judge(6, belief, tuple(as_pair(Fraction(one, sum(weights))) for one in weights))
            paper = kept_paper(6, belief, levels)
            self.tells(levels, levels_of, 6, paper[1])

    def test_never_both_sorts(self):
        chance = random.Random(1550)
        for n in (2, 3):
            for k in range(25):
                belief = closed(chance, n, many=3)
                laying = any_laying(chance, n, belief)
                levels = plain_levels_of(n, laying)
                self.tells(True, lets_kept, n, belief, levels, ("laying", laying))
                for some in range(2 ** n):
                    self.tells(False, lets_kept, n, belief, levels, ("lacks", some))


if __name__ == "__main__":
    unittest.main()
