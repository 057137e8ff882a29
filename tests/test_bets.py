"""[60], [61], [62], gains, gain papers, even levels."""

import itertools
import random
import unittest
from fractions import Fraction

from beliefsets.bets import even_levels, gain_by, gain_paper, lets_gain
from beliefsets.keptchecker import lets_kept
from beliefsets.keeping import kept_paper
from samples import ODD_THINGS, Case, as_number, as_pair, cases, deep, long_thing, spoiled
from test_ends import long_belief
from test_keeping import lacking_sets
from test_spreads import (HALF, NOUGHT, ONE, THIRD, any_laying, any_levels, closed, parted, plain_is_laying,
                          plain_is_levels, plain_levels_of)
from test_tables import plain_table
from test_talechecker import is_plain_fraction

WORDS = ("least", "most")


def any_gains(chance, n):
    """Gains of n cases, by chance: many alike, near nought, or far off."""
    pool = chance.choice(((0, 1), (-1, 0, 1), (-999, 999), range(-5, 6), range(-999, 1000)))
    return tuple(chance.choice(pool) for case in range(n))


def plain_gain(levels, gains):
    return sum((as_number(level) * gain for level, gain in zip(levels, gains)), Fraction(0))


def ends_in(gains, word, some):
    """The cases of a set whose gain is the least (the greatest) in it."""
    end = {"least": min, "most": max}[word](gains[case] for case in cases(some))
    return [case for case in cases(some) if gains[case] == end]


def plain_lets_gain(n, belief, gains, word, thing):
    """[61] said again, by Fractions."""
    if type(thing) is not tuple or len(thing) != 2 or not is_plain_fraction(thing[0]):
        return False
    if not plain_is_laying(n, belief, thing[1]):
        return False
    for (some, share), row in zip(belief, thing[1]):
        if any(one != NOUGHT for case, one in enumerate(row) if case not in ends_in(gains, word, some)):
            return False
    return plain_gain(plain_levels_of(n, thing[1]), gains) == as_number(thing[0])


def any_paper(chance, n, belief, gains, word):
    """A right gain paper that lays shares, by chance, on several cases of the same gain."""
    rows = []
    for some, share in belief:
        ends = ends_in(gains, word, some)
        found = dict(zip(ends, parted(chance, as_number(share), len(ends))))
        rows.append(tuple(as_pair(found.get(case, Fraction(0))) for case in range(n)))
    return (as_pair(plain_gain(plain_levels_of(n, rows), gains)), tuple(rows))


class Gains(Case):
    def test_any_levels_and_gains(self):
        chance = random.Random(1700)
        for n in range(1, 7):
            for k in range(40):
                levels, gains = any_levels(chance, n), any_gains(chance, n)
                self.tells(as_pair(plain_gain(levels, gains)), gain_by, levels, gains)
            for gain in (-999, -1, 0, 1, 999):
                self.tells((gain, 1), gain_by, levels, (gain,) * n)

    def test_by_hand(self):
        self.tells((0, 1), gain_by, (HALF, HALF), (999, -999))
        self.tells((-1, 2), gain_by, (HALF, THIRD, (1, 6)), (-2, 1, 1))
        self.tells((999, 1), gain_by, (NOUGHT, ONE), (-999, 999))
        self.tells((5, 3), gain_by, (THIRD, (2, 3)), (1, 2))


class EvenLevels(Case):
    def test_any_closed_belief(self):
        chance = random.Random(1710)
        for n in range(1, 7):
            found = [closed(chance, n) for k in range(20)] + [((2 ** n - 1, ONE),), ((2 ** (n - 1), ONE),)]
            for belief in found:
                levels = [Fraction(0)] * n
                for some, share in belief:
                    for case in cases(some):
                        levels[case] += as_number(share) / len(cases(some))
                wanted = tuple(as_pair(one) for one in levels)
                self.tells(wanted, even_levels, n, belief)
                self.assertTrue(plain_is_levels(n, wanted))
                self.assertEqual(lacking_sets(n, belief, wanted), [])
                self.tells(True, lets_kept, n, belief, wanted, kept_paper(n, belief, wanted))

    def test_by_hand(self):
        self.tells(((7, 12), (5, 12), NOUGHT), even_levels, 3, ((1, (1, 6)), (3, (5, 6))))
        self.tells((NOUGHT, HALF, HALF), even_levels, 3, ((6, ONE),))
        self.tells((ONE,), even_levels, 1, ((1, ONE),))


class Lets(Case):
    def lets(self, wanted, *told):
        self.tells(wanted, lets_gain, *told)

    def test_by_hand(self):
        belief, gains = ((1, HALF), (6, THIRD), (7, (1, 6))), (5, 2, 2)
        first, whole = (HALF, NOUGHT, NOUGHT), (NOUGHT, NOUGHT, (1, 6))
        rows = (first, (NOUGHT, (1, 4), (1, 12)), whole)
        self.lets(True, 3, belief, gains, "least", ((7, 2), rows))
        for fraction in ((7, 3), (4, 1), (-7, 2), (14, 4), (7, -2), (-7, -2), 3, True, None, "7/2", [7, 2], (7,),
                         (7, 2, 1), ("7", 2), (10 ** 599, 3), ()):
            self.lets(False, 3, belief, gains, "least", (fraction, rows))
        self.lets(False, 3, belief, gains, "most", ((7, 2), rows))
        most = (first, (NOUGHT, (1, 4), (1, 12)), ((1, 6), NOUGHT, NOUGHT))
        self.lets(True, 3, belief, gains, "most", ((4, 1), most))
        self.lets(False, 3, belief, gains, "least", ((4, 1), most))
        # The fraction is right by these levels, but a share is laid where the gain isn't the least.
        some_high = (first, (NOUGHT, (1, 4), (1, 12)), ((1, 12), (1, 12), NOUGHT))
        self.assertEqual(plain_gain(plain_levels_of(3, some_high), gains), Fraction(15, 4))
        self.lets(False, 3, belief, gains, "least", ((15, 4), some_high))
        self.lets(False, 3, belief, gains, "most", ((15, 4), some_high))
        for thing in ([(7, 2), rows], ((7, 2), list(rows)), ((7, 2),), ((7, 2), rows, rows), (rows, (7, 2)), rows,
                      ((7, 2), rows[:2]), ((7, 2), rows + (rows[0],)), ((7, 2), (rows[1], rows[0], rows[2])),
                      ((7, 2), None), ((7, 2), ()), ((7, 2), (first, list(rows[1]), whole)), None, "", (), True):
            self.lets(False, 3, belief, gains, "least", thing)
        # The same rows for another belief, whose share of 6 is another one, or whose sets are others.
        self.lets(False, 3, ((1, HALF), (6, (1, 6)), (7, THIRD)), gains, "least", ((7, 2), rows))
        self.lets(False, 3, ((1, HALF), (2, THIRD), (7, (1, 6))), gains, "least", ((7, 2), rows))

    def test_truths(self):
        self.lets(True, 1, ((1, ONE),), (1,), "least", (ONE, ((ONE,),)))
        for thing in (((True, 1), ((ONE,),)), ((1, True), ((ONE,),)), (True, ((ONE,),)), (ONE, (((True, 1),),)),
                      (ONE, (((1, True),),)), (ONE, ((True,),)), (ONE, (True,)), (ONE, True)):
            self.lets(False, 1, ((1, ONE),), (1,), "least", thing)

    def test_any_thing(self):
        belief, gains = ((1, HALF), (3, HALF)), (3, -4)
        paper = gain_paper(2, belief, gains, "least")
        for word in WORDS:
            for thing in ODD_THINGS + (deep(60), long_thing(), (deep(59), deep(59)), (paper[0], deep(59))):
                self.lets(False, 2, belief, gains, word, thing)
                self.lets(False, 2, belief, gains, word, (thing, paper[1]))
                self.lets(False, 2, belief, gains, word, (paper[0], thing))

    def test_right_ones_on_several_cases(self):
        chance = random.Random(1720)
        for n in range(1, 7):
            for word in WORDS:
                for k in range(10):
                    belief, gains = closed(chance, n, many=chance.randint(1, 16)), any_gains(chance, n)
                    self.lets(True, n, belief, gains, word, any_paper(chance, n, belief, gains, word))

    def test_any_laying(self):
        chance = random.Random(1730)
        seen = {}
        for n in range(1, 7):
            for word in WORDS:
                for k in range(20):
                    belief, gains = closed(chance, n, many=chance.randint(1, 3)), any_gains(chance, n)
                    laying = any_laying(chance, n, belief)
                    thing = (as_pair(plain_gain(plain_levels_of(n, laying), gains)), laying)
                    wanted = plain_lets_gain(n, belief, gains, word, thing)
                    seen[wanted] = True
                    self.lets(wanted, n, belief, gains, word, thing)
        self.assertEqual(len(seen), 2)

    def test_spoiled_papers(self):
        chance = random.Random(1740)
        for n in range(1, 7):
            for word in WORDS:
                belief, gains = closed(chance, n, many=chance.randint(1, 3)), any_gains(chance, n)
                paper = any_paper(chance, n, belief, gains, word)
                for thing in spoiled(paper):
                    self.lets(plain_lets_gain(n, belief, gains, word, thing), n, belief, gains, word, thing)

    def test_long_shares(self):
        # Each row's shares have long, unlike bottoms, though together they come to a short one.
        chance = random.Random(1750)
        belief = tuple((some, (1, 63)) for some in range(1, 64))
        rows, gains = [], (7,) * 6
        for some, share in belief:
            inside = sorted(cases(some))
            row = {case: Fraction(0) for case in range(6)}
            row[inside[0]] = Fraction(chance.randrange(10 ** 595, 10 ** 596), chance.randrange(10 ** 598, 10 ** 599))
            row[inside[-1]] += Fraction(1, 63) - row[inside[0]]
            rows.append(tuple(as_pair(row[case]) for case in range(6)))
        self.lets(True, 6, belief, gains, "least", ((7, 1), tuple(rows)))
        self.lets(False, 6, belief, gains, "most", ((8, 1), tuple(rows)))


class Paper(Case):
    def judge(self, n, belief, gains):
        for word in WORDS:
            paper = self.ask(gain_paper, n, belief, gains, word)
            self.assertTrue(plain_lets_gain(n, belief, gains, word, paper), (n, belief, gains, word, paper))
            self.tells(True, lets_gain, n, belief, gains, word, paper)

    def test_any_closed_belief(self):
        chance = random.Random(1760)
        for n in range(1, 7):
            for k in range(15):
                self.judge(n, closed(chance, n), any_gains(chance, n))
            self.judge(n, ((2 ** n - 1, ONE),), (999,) * n)
            self.judge(n, ((1, ONE),), (-999,) * n)

    def test_no_levels_that_keep_the_belief_gain_less_or_more(self):
        chance = random.Random(1770)
        for n in range(1, 5):
            for k in range(6):
                belief, gains = closed(chance, n), any_gains(chance, n)
                least, most = [as_number(gain_paper(n, belief, gains, word)[0]) for word in WORDS]
                reached = []
                for order in itertools.permutations(range(n)):
                    levels = [Fraction(0)] * n
                    for some, share in belief:
                        levels[min(cases(some), key=order.index)] += as_number(share)
                    reached.append(sum(level * gain for level, gain in zip(levels, gains)))
                # Of all levels that keep a belief these are the outermost ones.
                self.assertEqual((min(reached), max(reached)), (least, most))
                for levels in [plain_levels_of(n, any_laying(chance, n, belief)) for j in range(5)]:
                    self.assertTrue(least <= plain_gain(levels, gains) <= most)
                self.assertTrue(least <= plain_gain(even_levels(n, belief), gains) <= most)

    def test_of_one_in_a_set_and_nought_elsewhere(self):
        chance = random.Random(1780)
        for n in range(1, 7):
            belief = closed(chance, n)
            surely, may = plain_table("surely", n, belief), plain_table("may", n, belief)
            for some in range(2 ** n):
                gains = tuple(1 if case in cases(some) else 0 for case in range(n))
                self.tells(surely[some], lambda: gain_paper(n, belief, gains, "least")[0])
                self.tells(may[some], lambda: gain_paper(n, belief, gains, "most")[0])

    def test_many_sets_and_long_shares(self):
        chance = random.Random(1790)
        belief = long_belief(chance, 6, 190)
        for k in range(3):
            self.judge(6, belief, any_gains(chance, 6))


if __name__ == "__main__":
    unittest.main()
