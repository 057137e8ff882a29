"""[63], gains beaten by others."""

import random
import unittest

from beliefsets.beating import beaten_paper, lets_beaten, unbeaten
from beliefsets.bets import gain_paper
from samples import ODD_THINGS, Case, alike, as_number, cases, deep, long_thing, spoiled
from test_bets import any_gains, any_paper, plain_gain, plain_lets_gain
from test_ends import long_belief
from test_spreads import HALF, NOUGHT, ONE, THIRD, any_laying, closed, plain_is_laying, plain_levels_of


def less(one, other):
    return tuple(a - b for a, b in zip(one, other))


def plain_beaten(belief, one, other):
    """Whether by all levels that keep a belief more is gained by the others: by the least they gain more."""
    gains = less(other, one)
    return sum(as_number(share) * min(gains[case] for case in cases(some)) for some, share in belief) > 0


def plain_lets_beaten(n, belief, one, other, thing):
    """[63] said again, by Fractions."""
    if type(thing) is not tuple or not thing or type(thing[0]) is not str:
        return False
    gains = less(other, one)
    if thing[0] == "beaten":
        return len(thing) == 3 and plain_lets_gain(n, belief, gains, "least", thing[1:]) and as_number(thing[1]) > 0
    if thing[0] != "not" or len(thing) != 2 or not plain_is_laying(n, belief, thing[1]):
        return False
    levels = plain_levels_of(n, thing[1])
    return plain_gain(levels, other) <= plain_gain(levels, one)


class Lets(Case):
    def lets(self, wanted, *told):
        self.tells(wanted, lets_beaten, *told)

    def test_beaten(self):
        belief, one, other = ((1, HALF), (3, HALF)), (0, 3), (1, 4)
        rows = ((HALF, NOUGHT), (HALF, NOUGHT))
        self.lets(True, 2, belief, one, other, ("beaten", ONE, rows))
        self.lets(True, 2, belief, one, other, ("beaten", ONE, ((HALF, NOUGHT), (THIRD, (1, 6)))))
        for thing in (("not", rows), ("not", ONE, rows), ("beaten", rows), ("beaten", ONE), ("beaten", rows, ONE),
                      ["beaten", ONE, rows], ("beaten", ONE, list(rows)), ("Beaten", ONE, rows), (None, ONE, rows),
                      ("beaten", (2, 1), rows), ("beaten", NOUGHT, rows), ("beaten", (-1, 1), rows),
                      ("beaten", (2, 2), rows), ("beaten", (True, 1), rows), ("beaten", True, rows),
                      ("beaten", ONE, rows, rows), ("least", ONE, rows), (ONE, rows), ("beaten", None, rows),
                      ("beaten", ONE, None), ("beaten", ONE, rows[:1]), "beaten", ("beaten",), (), None, True):
            self.lets(False, 2, belief, one, other, thing)
        # Gains exchanged: by the first ones less is gained than by the others.
        self.lets(False, 2, belief, other, one, ("beaten", ONE, rows))
        self.lets(False, 2, belief, other, one, ("beaten", (-1, 1), rows))
        self.lets(True, 2, belief, other, one, ("not", rows))
        # A paper for other gains, for another belief.
        self.lets(False, 2, belief, one, (2, 5), ("beaten", ONE, rows))
        self.lets(False, 2, ((2, HALF), (3, HALF)), one, other, ("beaten", ONE, rows))

    def test_of_nought_or_below_it_is_none(self):
        belief, rows = ((3, ONE),), (((1, 1), NOUGHT),)
        self.lets(False, 2, belief, (0, 0), (0, 1), ("beaten", NOUGHT, rows))
        self.lets(True, 2, belief, (0, 0), (0, 1), ("not", rows))
        self.lets(False, 2, belief, (0, 0), (-1, 1), ("beaten", (-1, 1), rows))
        self.lets(True, 2, belief, (0, 0), (-1, 1), ("not", rows))
        self.lets(True, 2, belief, (0, 0), (1, 1), ("beaten", ONE, rows))

    def test_not(self):
        belief, one, other = ((1, HALF), (3, HALF)), (2, 0), (1, 5)
        for rows, wanted in ((((HALF, NOUGHT), (HALF, NOUGHT)), True), (((HALF, NOUGHT), (NOUGHT, HALF)), False),
                             (((HALF, NOUGHT), ((5, 12), (1, 12))), True), (((HALF, NOUGHT), (THIRD, (1, 6))), True),
                             (((HALF, NOUGHT), ((1, 4), (1, 4))), False)):
            self.lets(wanted, 2, belief, one, other, ("not", rows))
        rows = ((HALF, NOUGHT), (HALF, NOUGHT))
        for thing in (["not", rows], ("not",), ("not", rows, rows), ("not", list(rows)), ("no", rows), (False, rows),
                      ("not", None), ("not", ()), ("not", rows[:1]), ("not", rows + rows[:1]), ("beaten", rows),
                      ("not", ((NOUGHT, HALF), (HALF, NOUGHT))), ("not", ((HALF, NOUGHT), (HALF, False))), rows, "not"):
            self.lets(False, 2, belief, one, other, thing)
        self.lets(False, 2, ((1, THIRD), (3, (2, 3))), one, other, ("not", rows))

    def test_any_thing(self):
        belief, one, other = ((1, HALF), (3, HALF)), (0, 3), (1, 4)
        paper = beaten_paper(2, belief, one, other)
        for thing in ODD_THINGS + (deep(60), long_thing()):
            for whole in (thing, ("not", thing), ("beaten", thing, thing), (thing, paper[1], paper[2]),
                          ("beaten", thing, paper[2]), ("beaten", paper[1], thing), (thing, paper[2])):
                self.lets(False, 2, belief, one, other, whole)

    def test_any_laying_and_spoiled_papers(self):
        chance = random.Random(1800)
        seen = {}
        for n in range(1, 7):
            for k in range(4):
                belief = closed(chance, n, many=chance.randint(1, 3))
                one, other = any_gains(chance, n), any_gains(chance, n)
                if k % 2:
                    other = tuple(max(gain, one[case]) for case, gain in enumerate(other))
                laying = any_laying(chance, n, belief)
                papers = [("not", laying), beaten_paper(n, belief, one, other)]
                papers.append(("beaten",) + any_paper(chance, n, belief, less(other, one), "least"))
                for paper in papers:
                    for thing in [paper] + list(spoiled(paper)):
                        wanted = plain_lets_beaten(n, belief, one, other, thing)
                        seen[paper[0], wanted] = True
                        self.lets(wanted, n, belief, one, other, thing)
        self.assertEqual(len(seen), 4)


class Paper(Case):
    def judge(self, n, belief, one, other):
        paper = self.ask(beaten_paper, n, belief, one, other)
        self.assertEqual(paper[0], "beaten" if plain_beaten(belief, one, other) else "not")
        self.assertTrue(plain_lets_beaten(n, belief, one, other, paper), (n, belief, one, other, paper))
        self.tells(True, lets_beaten, n, belief, one, other, paper)
        return paper[0]

    def test_any_gains(self):
        chance = random.Random(1810)
        seen = {}
        for n in range(1, 7):
            for k in range(30):
                belief, one, other = closed(chance, n), any_gains(chance, n), any_gains(chance, n)
                seen[n, self.judge(n, belief, one, other)] = True
                seen[n, self.judge(n, belief, other, one)] = True
                self.assertEqual(self.judge(n, belief, one, one), "not")
        self.assertEqual(len(seen), 12)

    def test_gains_far_off(self):
        for n in range(1, 7):
            low, high = (-999,) * n, (999,) * n
            for belief in (((2 ** n - 1, ONE),), ((1, ONE),), closed(random.Random(1820), n)):
                self.assertEqual(self.judge(n, belief, low, high), "beaten")
                self.assertEqual(self.judge(n, belief, high, low), "not")
                self.tells((1998, 1), lambda: beaten_paper(n, belief, low, high)[1])

    def test_just_beaten_and_just_not(self):
        belief = ((1, HALF), (3, HALF))
        self.assertEqual(self.judge(2, belief, (0, 0), (1, -1)), "not")
        self.assertEqual(self.judge(2, ((1, (501, 1000)), (3, (499, 1000))), (0, 0), (1, -1)), "beaten")
        self.assertEqual(self.judge(2, ((1, (499, 1000)), (3, (501, 1000))), (0, 0), (1, -1)), "not")

    def test_never_both_sorts(self):
        chance = random.Random(1830)
        for n in range(1, 5):
            for k in range(25):
                belief, one, other = closed(chance, n), any_gains(chance, n), any_gains(chance, n)
                beaten = plain_beaten(belief, one, other)
                gain, rows = gain_paper(n, belief, less(other, one), "least")
                self.tells(beaten, lets_beaten, n, belief, one, other, ("beaten", gain, rows))
                for laying in [rows] + [any_laying(chance, n, belief) for j in range(4)]:
                    if beaten:
                        self.tells(False, lets_beaten, n, belief, one, other, ("not", laying))

    def test_many_sets_and_long_shares(self):
        chance = random.Random(1840)
        belief = long_belief(chance, 6, 190)
        for k in range(3):
            self.judge(6, belief, any_gains(chance, 6), any_gains(chance, 6))


class Unbeaten(Case):
    def judge(self, n, belief, rows):
        wanted = [k for k, one in enumerate(rows) if not any(plain_beaten(belief, one, other) for other in rows)]
        self.assertTrue(wanted)
        self.tells(wanted, unbeaten, n, belief, rows)
        return len(wanted)

    def test_one_to_eight_gains(self):
        chance = random.Random(1850)
        for n in range(1, 7):
            seen = {}
            for many in range(1, 9):
                for k in range(3):
                    rows = [any_gains(chance, n) for j in range(many)]
                    # Alike ones among them.
                    rows += chance.sample(rows, min(len(rows), 8 - len(rows), k))
                    seen[self.judge(n, closed(chance, n), rows)] = True
            self.assertGreater(len(seen), 1)

    def test_by_hand(self):
        belief = ((1, HALF), (3, HALF))
        self.tells([0], unbeaten, 2, belief, [(0, 0)])
        self.tells([0, 1, 2], unbeaten, 2, belief, [(5, 5)] * 3)
        self.tells([1, 3], unbeaten, 2, belief, [(0, 0), (1, 1), (0, 0), (1, 1), (-1, 0)])
        self.tells([7], unbeaten, 2, belief, [(k, k) for k in range(8)])
        self.tells([0, 1, 2], unbeaten, 2, ((3, ONE),), [(0, 9), (9, 0), (4, 4)])
        self.tells([1, 2], unbeaten, 2, ((1, (2, 3)), (3, THIRD)), [(0, 9), (9, 0), (8, 8)])

    def test_the_list_is_the_askers_own(self):
        rows = [(1, 0), (0, 1)]
        found = unbeaten(2, ((3, ONE),), rows)
        found.append(5)
        self.assertTrue(alike(rows, [(1, 0), (0, 1)]))
        self.tells([0, 1], unbeaten, 2, ((3, ONE),), rows)


if __name__ == "__main__":
    unittest.main()
