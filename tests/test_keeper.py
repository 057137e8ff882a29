"""[35], [36], [37], a keeper of pieces."""

import random
import unittest
from fractions import Fraction

from beliefsets.clashing import lets_clash
from beliefsets.errors import BeliefError, NoPiece, TooMany
from beliefsets.keeper import Keeper
from beliefsets.taking import taken
from samples import Case, alike, as_pair, sample
from test_clashing import closed as narrow_piece
from test_joining import plain_both
from test_spreads import HALF, NOUGHT, ONE, THIRD, closed
from test_tables import plain_table
from test_weaker import plain_weaker


def plain_whole(n, beliefs):
    whole = ((2 ** n - 1, ONE),)
    for belief in beliefs:
        whole = plain_both(whole, belief)
    return whole


def short_share(chance):
    bottom = chance.randint(1, 9999)
    return as_pair(Fraction(chance.randint(0, bottom), bottom))


class Shadow(Case):
    """A keeper, and beside it a plain dict that is told the same."""

    def start(self, n):
        self.n, self.keeper, self.stands, self.due = n, Keeper(n), {}, 0

    def put(self, belief):
        if len(self.stands) == 8:
            self.refuses(TooMany, {}, self.keeper.put, belief)
        else:
            self.tells(self.due, self.keeper.put, belief)
            self.stands[self.due] = belief
            self.due += 1

    def gone(self, number):
        if number in self.stands:
            self.tells(None, self.keeper.gone, number)
            del self.stands[number]
        else:
            self.refuses(NoPiece, {"number": number}, self.keeper.gone, number)

    def weaker(self, number, share):
        if number in self.stands:
            self.tells(None, self.keeper.weaker, number, share)
            self.stands[number] = plain_weaker(self.n, self.stands[number], share)
        else:
            self.refuses(NoPiece, {"number": number}, self.keeper.weaker, number, share)

    def look(self, sets=None):
        """Looks at all that the keeper tells."""
        rows = [(number, self.stands[number]) for number in sorted(self.stands)]
        self.tells(rows, self.keeper.pieces)
        whole = plain_whole(self.n, [belief for number, belief in rows])
        self.tells(whole, self.keeper.whole)
        surely, may = plain_table("surely", self.n, whole), plain_table("may", self.n, whole)
        for some in range(2 ** self.n) if sets is None else sets:
            self.tells(surely[some], self.keeper.surely, some)
            self.tells(may[some], self.keeper.may, some)
        self.tells(dict(whole).get(0, NOUGHT), self.keeper.clash)
        self.look_at_paper(rows)

    def look_at_paper(self, rows):
        paper = self.keeper.least_clash()
        if not rows:
            self.assertTrue(alike(paper, ("some", paper[1])) and type(paper[1]) is int and 0 <= paper[1] < self.n)
            return
        numbers = [number for number, belief in rows]
        if paper[0] == "all":
            self.assertTrue(all(type(number) is int and number in numbers for number in paper[1] + paper[2]))
            paper = ("all", tuple(map(numbers.index, paper[1])), tuple(map(numbers.index, paper[2])), paper[3])
        self.assertTrue(lets_clash(self.n, [belief for number, belief in rows], paper), (rows, paper))


class Numbers(Shadow):
    def test_none_is_used_again(self):
        self.start(2)
        for k in range(4):
            self.put(((3, ONE),))
        self.gone(3)
        self.put(((1, ONE),))
        self.gone(4)
        self.gone(0)
        self.put(((2, ONE),))
        self.assertEqual([number for number, belief in self.keeper.pieces()], [1, 2, 5])
        self.look()

    def test_too_many(self):
        self.start(3)
        for k in range(8):
            self.put(((k % 7 + 1, ONE),))
        self.refuses(TooMany, {}, self.keeper.put, ((7, ONE),))
        self.refuses(TooMany, {}, self.keeper.put, ((1, ONE),))
        self.look()
        self.gone(5)
        self.put(((7, ONE),))
        self.assertEqual(self.due, 9)
        self.look()
        self.refuses(TooMany, {}, self.keeper.put, ((7, ONE),))
        self.look()

    def test_numbers_that_do_not_stand(self):
        self.start(2)
        for number in (0, 1, -1, 10 ** 20, -(10 ** 599)):
            self.gone(number)
            self.weaker(number, HALF)
        self.put(((1, HALF), (3, HALF)))
        self.put(((2, ONE),))
        self.gone(0)
        for number in (0, 2, -1, -2, 7):
            self.gone(number)
            self.weaker(number, (0, 1))
        self.look()
        self.assertEqual(self.keeper.pieces(), [(1, ((2, ONE),))])

    def test_gone_and_weaker_tell_none(self):
        keeper = Keeper(1)
        keeper.put(((1, ONE),))
        self.tells(None, keeper.weaker, 0, HALF)
        self.tells(None, keeper.gone, 0)

    def test_twenty_granted_in_all(self):
        for n in (1, 3, 6):
            chance = random.Random(2200 + n)
            self.start(n)
            for k in range(8):
                self.put(closed(chance, n, many=16))
            for k in range(4):
                self.gone(2 * k)
                self.put(closed(chance, n, many=16))
            for k in range(20):
                self.weaker(chance.choice(sorted(self.stands)), short_share(chance))
            self.look(sets=range(0, 2 ** n, 3))


class Weaker(Shadow):
    def test_by_and_by(self):
        self.start(2)
        self.put(((1, HALF), (2, HALF)))
        self.weaker(0, HALF)
        self.tells([(0, ((1, (1, 4)), (2, (1, 4)), (3, HALF)))], self.keeper.pieces)
        self.weaker(0, THIRD)
        self.tells([(0, ((1, (1, 12)), (2, (1, 12)), (3, (5, 6))))], self.keeper.pieces)
        self.weaker(0, ONE)
        self.tells([(0, ((1, (1, 12)), (2, (1, 12)), (3, (5, 6))))], self.keeper.pieces)
        self.look()
        self.weaker(0, NOUGHT)
        self.tells([(0, ((3, ONE),))], self.keeper.pieces)
        self.weaker(0, HALF)
        self.tells([(0, ((3, ONE),))], self.keeper.pieces)

    def test_it_stands_in_its_place(self):
        self.start(2)
        for k in range(3):
            self.put(((1, HALF), (3, HALF)))
        self.weaker(1, HALF)
        self.weaker(0, THIRD)
        self.assertEqual([number for number, belief in self.keeper.pieces()], [0, 1, 2])
        self.look()


class Whole(Shadow):
    def test_silent_where_none_stands(self):
        for n in range(1, 7):
            self.start(n)
            self.look()
            self.tells(((2 ** n - 1, ONE),), self.keeper.whole)
            self.put(((1, ONE),))
            self.gone(0)
            self.look()
            self.tells(((2 ** n - 1, ONE),), self.keeper.whole)

    def test_clash_is_not_divided_out(self):
        self.start(2)
        self.put(((1, HALF), (3, HALF)))
        self.put(((2, HALF), (3, HALF)))
        self.tells((1, 4), self.keeper.clash)
        self.tells((1, 4), self.keeper.surely, 1)
        self.tells(HALF, self.keeper.may, 1)
        self.tells((3, 4), self.keeper.may, 3)
        self.tells(NOUGHT, self.keeper.surely, 0)
        self.tells(NOUGHT, self.keeper.may, 0)

    def test_gone_without_a_trace(self):
        chance = random.Random(2210)
        for n in range(1, 7):
            for k in range(4):
                self.start(n)
                for j in range(3):
                    self.put(closed(chance, n, many=4))
                ahead = self.keeper.whole()
                extra = sample(chance, n, many=5, must=[2 ** n - 1], without=[0], most=99)
                self.put(extra)
                self.weaker(3, (1, 2))
                stood = self.keeper.pieces()[3][1]
                with_it = self.keeper.whole()
                self.gone(3)
                self.tells(ahead, self.keeper.whole)
                # It was wide: so the whole is what is told of the whole ahead and that piece, taken back.
                self.tells(ahead, taken, n, with_it, stood)
                self.look(sets=[1, 2 ** n - 1])

    def test_any_deeds(self):
        chance = random.Random(2220)
        for n in range(1, 7):
            self.start(n)
            for k in range(20):
                deed = chance.choice("pppgw")
                number = chance.randrange(-1, self.due + 1)
                if deed == "p":
                    self.put(closed(chance, n, many=chance.randint(1, 6)))
                elif deed == "g":
                    self.gone(number)
                else:
                    self.weaker(number, short_share(chance))
                self.look(sets=[0, 1, 2 ** n - 1, chance.randrange(2 ** n)])

    def test_what_is_told_is_the_askers_own(self):
        keeper = Keeper(2)
        keeper.put(((1, ONE),))
        found = keeper.pieces()
        found.append((1, ((2, ONE),)))
        found[0] = (7, ((3, ONE),))
        self.tells([(0, ((1, ONE),))], keeper.pieces)
        self.assertEqual(keeper.put(((1, ONE),)), 1)

    def test_two_keepers_by_turns(self):
        one, other = Keeper(2), Keeper(2)
        self.tells(0, one.put, ((1, ONE),))
        self.tells(0, other.put, ((2, ONE),))
        self.tells(1, one.put, ((3, ONE),))
        self.tells(((1, ONE),), one.whole)
        self.tells(((2, ONE),), other.whole)
        self.refuses(NoPiece, {"number": 1}, other.gone, 1)


class LeastClash(Shadow):
    def test_by_hand(self):
        self.start(3)
        self.put(((7, ONE),))
        self.put(((1, ONE),))
        self.put(((3, ONE),))
        self.put(((6, ONE),))
        self.look()
        self.tells(("all", (1, 3), (3, 1, 1), (1, 0)), lambda: self.keeper.least_clash())
        self.gone(1)
        self.tells(("some", 1), self.keeper.least_clash)
        self.put(((5, ONE),))
        self.tells(("all", (2, 3, 4), (3, 4, 2), (2, 0, 1)), self.keeper.least_clash)
        self.look()
        self.weaker(3, HALF)
        self.assertEqual(self.keeper.least_clash()[0], "some")
        self.look()

    def test_any_pieces(self):
        chance = random.Random(2230)
        seen = {}
        for n in range(1, 7):
            for k in range(12):
                self.start(n)
                for j in range(chance.randint(1, 8)):
                    self.put(narrow_piece(chance, n, chance.choice((n, max(1, n - 1), 2))))
                for number in chance.sample(range(self.due), chance.randrange(self.due)):
                    self.gone(number)
                while len(self.stands) < 8 and chance.randint(0, 2):
                    self.put(narrow_piece(chance, n, 2))
                self.look_at_paper(sorted(self.stands.items()))
                seen[n, self.keeper.least_clash()[0]] = True
        self.assertEqual(len(seen), 11)


class Refusals(Shadow):
    def test_what_is_refused_changes_nothing(self):
        self.start(2)
        for k in range(8):
            self.put(((1 + k % 3, ONE),))
        ahead = self.keeper.pieces()
        for deed, told in ((self.keeper.put, (((3, ONE),),)), (self.keeper.gone, (8,)), (self.keeper.gone, (-1,)),
                           (self.keeper.weaker, (8, HALF)), (self.keeper.weaker, (-8, NOUGHT))):
            for again in range(2):
                with self.assertRaises(BeliefError):
                    deed(*told)
                self.tells(ahead, self.keeper.pieces)
        self.gone(7)
        self.put(((3, ONE),))
        self.assertEqual(self.due, 9)


if __name__ == "__main__":
    unittest.main()
