"""[65] to [68], moved papers told, moves joined, pointed levels."""

import itertools
import random
import unittest
from fractions import Fraction

from beliefsets.joining import both
from beliefsets.keeping import kept_paper
from beliefsets.moves import is_moves, lets_moved, moved_by
from beliefsets.moving import joined_moves, moved_paper, pointed
from beliefsets.weaker import weaker
from samples import Case, as_number, as_pair, cases, sample, samples
from test_moves import any_belief, any_moves, is_plain_lack, plain_is_moves, plain_lets_moved, plain_moved, within
from test_spreads import HALF, NOUGHT, ONE, THIRD, any_laying, any_levels, closed, plain_levels_of
from test_tables import plain_table


def comes_by_families(n, one, other):
    """Whether one belief comes of another, by a look at all families of the one's sets."""
    sets = [some for some, share in one]
    rows = itertools.chain.from_iterable(itertools.combinations(sets, many) for many in range(1, len(sets) + 1))
    return not any(is_plain_lack(n, one, other, family) for family in rows)


class Paper(Case):
    def judge(self, n, one, other, word=None):
        paper = self.ask(moved_paper, n, one, other)
        self.assertTrue(plain_lets_moved(n, one, other, paper), (n, one, other, paper))
        self.tells(True, lets_moved, n, one, other, paper)
        if word is not None:
            self.assertEqual(paper[0], word, (n, one, other))
        return paper[0]

    def test_where_it_comes(self):
        chance = random.Random(2000)
        for n in range(1, 7):
            for other in samples(2010 + n, n, 6):
                one = plain_moved(any_moves(chance, n, other))
                self.judge(n, one, other, "moves")
                self.judge(n, other, other, "moves")
                self.judge(n, ((0, ONE),), other, "moves")
                self.judge(n, other, ((2 ** n - 1, ONE),), "moves")

    def test_where_it_comes_or_not_by_all_families(self):
        chance = random.Random(2020)
        seen = {}
        for n in range(1, 7):
            for k in range(40):
                other = any_belief(chance, n, many=chance.randint(1, 8))
                one = any_belief(chance, n, many=chance.randint(1, 5))
                if k % 2:
                    # Near to what comes of it: a little is moved elsewhere.
                    one = self.shifted(chance, n, plain_moved(any_moves(chance, n, other, most=2)))
                if len(one) <= 9:
                    word = "moves" if comes_by_families(n, one, other) else "lacks"
                    seen[n, self.judge(n, one, other, word)] = True
        self.assertEqual(len(seen), 12)

    def shifted(self, chance, n, belief):
        found = {some: as_number(share) for some, share in belief}
        some, other = chance.choice(sorted(found)), chance.randrange(2 ** n)
        part = found[some] * chance.choice((Fraction(1, 100), Fraction(1, 2), 1))
        found[some] -= part
        found[other] = found.get(other, Fraction(0)) + part
        return tuple((some, as_pair(found[some])) for some in sorted(found) if found[some])

    def test_just_so_and_just_not(self):
        other = ((3, HALF), (5, HALF))
        self.judge(3, ((1, ONE),), other, "moves")
        self.judge(3, ((2, HALF), (4, HALF)), other, "moves")
        tiny = Fraction(1, 10 ** 199)
        self.judge(3, ((2, as_pair(Fraction(1, 2) + tiny)), (4, as_pair(Fraction(1, 2) - tiny))), other, "lacks")
        self.judge(3, ((7, ONE),), other, "lacks")
        self.judge(3, other, ((7, ONE),), "moves")
        self.judge(3, other, ((0, (1, 9999)), (7, (9998, 9999))), "lacks")
        self.judge(1, ((1, ONE),), ((0, (1, 2)), (1, (1, 2))), "lacks")
        self.judge(1, ((0, (1, 2)), (1, (1, 2))), ((1, ONE),), "moves")

    def test_what_is_sent_must_give_way(self):
        # What the first source sends at first is needed elsewhere, along ways of many steps.
        ring = [1 << k | 1 << (k + 1) % 6 for k in range(6)]
        for start in range(6):
            one = tuple(sorted((1 << k, (1, 6)) for k in range(6)))
            self.judge(6, one, tuple(sorted((some, (1, 6)) for some in ring)), "moves")
            chain = tuple(sorted((some, (1, 5)) for k, some in enumerate(ring) if k != start))
            kept = tuple((1 << k, (1, 5)) for k in range(6) if k != 3)
            self.judge(6, kept, chain, "moves")
            self.judge(6, one, chain, "moves")
            self.judge(6, tuple((1 << k, (1, 4)) for k in range(4)), chain)

    def test_many_sets_and_long_shares(self):
        chance = random.Random(2030)
        tops = [chance.randrange(1, 10 ** 195) for some in range(64)]
        other = tuple((some, as_pair(Fraction(top, sum(tops)))) for some, top in enumerate(tops))
        rows = [(some, inner, Fraction(top, sum(tops) * len(within(some)))) for some, top in enumerate(tops)
                for inner in within(some)]
        one = plain_moved([(some, inner, as_pair(part)) for some, inner, part in rows])
        self.assertEqual((len(one), len(rows)), (64, 729))
        self.judge(6, one, other, "moves")
        self.judge(6, other, one, "lacks")
        self.judge(6, plain_moved(any_moves(chance, 6, other)), other, "moves")

    def test_never_both_sorts(self):
        chance = random.Random(2040)
        for n in (1, 2, 3):
            for k in range(25):
                other = any_belief(chance, n, many=4)
                moves = any_moves(chance, n, other)
                one = plain_moved(moves)
                self.tells(True, lets_moved, n, one, other, ("moves", moves))
                for row in range(2 ** 2 ** n):
                    family = tuple(some for some in range(2 ** n) if row & 1 << some)
                    self.assertFalse(lets_moved(n, one, other, ("lacks", family)))


class Comes(Case):
    def test_held_may_and_common(self):
        chance = random.Random(2050)
        for n in range(1, 7):
            for other in samples(2060 + n, n, 4):
                one = plain_moved(any_moves(chance, n, other))
                for word, sign in (("held", 1), ("may", -1), ("common", -1)):
                    for a, b in zip(plain_table(word, n, one), plain_table(word, n, other)):
                        self.assertGreaterEqual(sign * (as_number(a) - as_number(b)), 0)

    def test_not_the_other_way_about(self):
        # Held is no less, may and common are no more at any set, and yet it doesn't come.
        one = tuple((some, (1, 4)) for some in (0, 3, 5, 6))
        other = tuple((some, (1, 4)) for some in (1, 2, 4, 7))
        for word, sign in (("held", 1), ("may", -1), ("common", -1)):
            pairs = list(zip(plain_table(word, 3, one), plain_table(word, 3, other)))
            self.assertTrue(all(sign * (as_number(a) - as_number(b)) >= 0 for a, b in pairs), word)
        self.tells("lacks", lambda: moved_paper(3, one, other)[0])

    def test_of_itself_of_each_of_two_and_made_weaker(self):
        chance = random.Random(2070)
        for n in range(1, 7):
            found = samples(2080 + n, n, 3)
            for belief in found:
                self.tells("moves", lambda: moved_paper(n, belief, belief)[0])
                for share in ((0, 1), (1, 3), (9998, 9999), ONE):
                    self.tells("moves", lambda: moved_paper(n, belief, weaker(n, belief, share))[0])
                other = chance.choice(found)
                joined = both(belief, other)
                self.tells("moves", lambda: moved_paper(n, joined, belief)[0])
                self.tells("moves", lambda: moved_paper(n, joined, other)[0])


class Joined(Case):
    def judge(self, n, belief, first, later):
        moves = self.ask(joined_moves, first, later)
        self.assertTrue(plain_is_moves(n, belief, moves), (n, belief, first, later, moves))
        self.tells(True, is_moves, n, belief, moves)
        self.assertEqual(plain_moved(moves), plain_moved(later))
        self.tells(plain_moved(later), moved_by, belief, moves)
        return moves

    def test_any_moves(self):
        chance = random.Random(2090)
        for n in range(1, 7):
            for belief in samples(2100 + n, n, 8):
                first = any_moves(chance, n, belief)
                later = any_moves(chance, n, plain_moved(first))
                joined = self.judge(n, belief, first, later)
                self.judge(n, belief, joined, any_moves(chance, n, plain_moved(later)))

    def test_by_hand(self):
        first = ((3, 1, HALF), (3, 2, HALF))
        later = ((1, 0, (1, 4)), (1, 1, (1, 4)), (2, 0, HALF))
        self.tells(((3, 0, (3, 4)), (3, 1, (1, 4))), joined_moves, first, later)
        stay = ((0, 0, THIRD), (7, 7, (2, 3)))
        self.tells(stay, joined_moves, stay, stay)
        self.tells(((0, 0, ONE),), joined_moves, ((0, 0, ONE),), ((0, 0, ONE),))
        self.judge(2, ((1, HALF), (3, HALF)), ((1, 1, HALF), (3, 1, HALF)), ((1, 0, THIRD), (1, 1, (2, 3))))

    def test_shares_stay_as_short_as_those_told(self):
        # Joined over and over, what is told can be handed in again.
        chance = random.Random(2110)
        belief = tuple((some, (1, 64)) for some in range(64))
        moves = tuple((some, some, share) for some, share in belief)
        for step in range(12):
            later = []
            for some, share in plain_moved(moves):
                inner = chance.choice(within(some))
                half = as_pair(as_number(share) / 2)
                later += [(some, some, share)] if inner == some else sorted([(some, inner, half), (some, some, half)])
            moves = self.judge(6, belief, moves, tuple(later))
        self.assertLess(max(share[1] for source, target, share in moves), 64 * 2 ** 13)

    def test_long_shares(self):
        chance = random.Random(2120)
        tops = [chance.randrange(1, 10 ** 190) for some in range(64)]
        belief = tuple((some, as_pair(Fraction(top, sum(tops)))) for some, top in enumerate(tops))
        first = tuple((some, some & 62, share) for some, share in belief)
        self.judge(6, belief, first, tuple((some, some & 31, share) for some, share in plain_moved(first)))


class Pointed(Case):
    def test_any_levels(self):
        chance = random.Random(2130)
        for n in range(1, 7):
            for k in range(10):
                levels = any_levels(chance, n)
                wanted = tuple((2 ** case, level) for case, level in enumerate(levels) if level != NOUGHT)
                self.tells(wanted, pointed, levels)
        self.tells(((2, ONE),), pointed, (NOUGHT, ONE, NOUGHT))
        self.tells(((1, HALF), (4, HALF)), pointed, (HALF, NOUGHT, HALF))

    def test_levels_keep_a_belief_just_where_the_pointed_ones_come_of_it(self):
        chance = random.Random(2140)
        seen = {}
        for n in range(1, 7):
            for k in range(20):
                belief = closed(chance, n, many=chance.randint(1, 16 if k % 2 else 3))
                for levels in (plain_levels_of(n, any_laying(chance, n, belief)), any_levels(chance, n)):
                    kept = kept_paper(n, belief, levels)[0] == "laying"
                    self.tells("moves" if kept else "lacks", lambda: moved_paper(n, pointed(levels), belief)[0])
                    seen[n, kept] = True
        self.assertEqual(len(seen), 11)


if __name__ == "__main__":
    unittest.main()
