"""[64], and of [65] the checker: moves, and moved papers let by."""

import random
import unittest
from fractions import Fraction

from beliefsets.moves import is_moves, lets_moved, moved_by
from beliefsets.moving import moved_paper
from samples import (ODD_THINGS, Case, alike, as_map, as_number, as_pair, cases, deep, is_plain_number, long_thing,
                     sample, samples, spoiled)
from test_spreads import HALF, ONE, THIRD, parted
from test_talechecker import is_plain_fraction


def plain_is_moves(n, belief, thing):
    """[64] said again, by frozensets and Fractions."""
    if type(thing) is not tuple or not all(type(row) is tuple and len(row) == 3 for row in thing):
        return False
    left = dict(as_map(belief))
    for source, target, share in thing:
        if not is_plain_number(source, 0, 2 ** n) or not is_plain_number(target, 0, 2 ** n):
            return False
        if not is_plain_fraction(share) or as_number(share) <= 0 or not cases(target) <= cases(source):
            return False
        if cases(source) not in left:
            return False
        left[cases(source)] -= as_number(share)
    pairs = [row[:2] for row in thing]
    return pairs == sorted(set(pairs)) and not any(left.values())


def plain_moved(moves):
    found = {}
    for source, target, share in moves:
        found[target] = found.get(target, Fraction(0)) + as_number(share)
    return tuple((some, as_pair(found[some])) for some in sorted(found))


def is_plain_lack(n, one, other, thing):
    if type(thing) is not tuple or not all(is_plain_number(some, 0, 2 ** n) for some in thing):
        return False
    if list(thing) != sorted(set(thing)):
        return False
    given = sum(as_number(share) for some, share in one if some in thing)
    at_hand = sum(as_number(share) for some, share in other if any(cases(inner) <= cases(some) for inner in thing))
    return given > at_hand


def plain_lets_moved(n, one, other, thing):
    """[65] said again."""
    if type(thing) is not tuple or len(thing) != 2:
        return False
    if alike(thing[0], "moves"):
        return plain_is_moves(n, other, thing[1]) and plain_moved(thing[1]) == one
    return alike(thing[0], "lacks") and is_plain_lack(n, one, other, thing[1])


def within(some):
    return [inner for inner in range(some + 1) if inner & some == inner]


def any_moves(chance, n, belief, most=4):
    """Moves of a belief by chance: shares that stay, that go to NONE, that meet on one set."""
    found = []
    for some, share in belief:
        targets = chance.sample(within(some), min(len(within(some)), chance.randint(1, most)))
        for extra in (0, some):
            if chance.randint(0, 2) == 0 and extra not in targets:
                targets.append(extra)
        for target, part in zip(targets, parted(chance, as_number(share), len(targets))):
            if part:
                found.append((some, target, as_pair(part)))
    return tuple(sorted(found))


def any_belief(chance, n, many=None):
    """A belief, with clash or not."""
    return sample(chance, n, many=many, must=chance.choice(([], [0])), without=[])


BELIEF = ((0, (1, 4)), (1, (1, 4)), (3, HALF))
MOVES = ((0, 0, (1, 4)), (1, 0, (1, 8)), (1, 1, (1, 8)), (3, 1, (1, 6)), (3, 3, THIRD))


class Moves(Case):
    def test_by_hand(self):
        self.tells(True, is_moves, 2, BELIEF, MOVES)
        self.tells(((0, (3, 8)), (1, (7, 24)), (3, THIRD)), moved_by, BELIEF, MOVES)
        stay = tuple((some, some, share) for some, share in BELIEF)
        self.tells(True, is_moves, 2, BELIEF, stay)
        self.tells(BELIEF, moved_by, BELIEF, stay)
        gone = tuple((some, 0, share) for some, share in BELIEF)
        self.tells(True, is_moves, 2, BELIEF, gone)
        self.tells(((0, ONE),), moved_by, BELIEF, gone)
        meeting = ((0, 0, (1, 4)), (1, 1, (1, 4)), (3, 1, HALF))
        self.tells(((0, (1, 4)), (1, (3, 4))), moved_by, BELIEF, meeting)

    def test_wrong_ones(self):
        first, second, third, fourth, fifth = MOVES
        for thing in (
            (), MOVES[:4], MOVES[1:], MOVES[::-1], MOVES + (fifth,), list(MOVES), (first, second, third, fifth, fourth),
            (first, third, second, fourth, fifth), MOVES + ((3, 3, (1, 6)),),
            (first, second, third, list(fourth), fifth),
            # A to that isn't within from; sets beyond.
            (first, (1, 2, (1, 4)), (3, 3, HALF)), ((0, 1, (1, 4)), (1, 1, (1, 4)), (3, 3, HALF)),
            (first, (1, 3, (1, 4)), (3, 3, HALF)), (first, (1, 1, (1, 4)), (7, 3, HALF)),
            (first, (1, 1, (1, 4)), (3, -1, HALF)), ((-1, 0, (1, 4)), (1, 1, (1, 4)), (3, 3, HALF)),
            # Shares of nought, below it, beyond one, not lowest.
            (first, (1, 0, (0, 1)), (1, 1, (1, 4)), (3, 3, HALF)),
            (first, (1, 1, (1, 4)), (3, 1, (-1, 2)), (3, 3, ONE)),
            (first, (1, 1, (1, 4)), (3, 1, (-1, 1)), (3, 3, (3, 2))), (first, (1, 1, (2, 8)), (3, 3, HALF)),
            # Two with the same from and to.
            (first, (1, 1, (1, 8)), (1, 1, (1, 8)), (3, 3, HALF)),
            (first, (1, 1, (1, 4)), (3, 3, (1, 4)), (3, 3, (1, 4))),
            # From a set without a share; shares that don't come to the set's share.
            (first, (1, 1, (1, 4)), (2, 2, (1, 4)), (3, 3, (1, 4))),
            (first, (1, 1, (1, 4)), (2, 0, (1, 9)), (3, 3, HALF)),
            (first, (1, 1, (1, 2)), (3, 3, (1, 4))), (first, (1, 1, (1, 4)), (3, 3, THIRD)), ((3, 3, ONE),),
            # Truths, texts, None, too few, too many.
            ((False, 0, (1, 4)), second, third, fourth, fifth), ((0, False, (1, 4)), second, third, fourth, fifth),
            (first, (True, 0, (1, 8)), third, fourth, fifth), (first, second, (1, True, (1, 8)), fourth, fifth),
            (first, second, (1, 1, (True, 8)), fourth, fifth), (first, (1, 1), (3, 3, HALF)), (first, None, fifth),
            (first, (1, 1, (1, 4), 0), (3, 3, HALF)), (first, (1, 1, 0), (3, 3, HALF)), (first, "110", (3, 3, HALF)),
            (first, (1, 1, [1, 4]), (3, 3, HALF)), (first, (1, 1, None), (3, 3, HALF)), None, "", True, 0,
            (first, ("1", 1, (1, 4)), (3, 3, HALF)), (first, (1, "1", (1, 4)), (3, 3, HALF)), ((),) + MOVES,
        ):
            self.tells(False, is_moves, 2, BELIEF, thing)

    def test_of_another_belief(self):
        self.tells(False, is_moves, 2, ((0, (1, 4)), (1, HALF), (3, (1, 4))), MOVES)
        self.tells(False, is_moves, 2, ((0, (1, 4)), (2, (1, 4)), (3, HALF)), MOVES)
        self.tells(False, is_moves, 2, BELIEF[:2] + ((2, (1, 4)), (3, (1, 4))), MOVES)
        self.tells(True, is_moves, 3, BELIEF, MOVES)
        self.tells(False, is_moves, 1, ((0, (1, 4)), (1, (3, 4))), MOVES)

    def test_any_moves(self):
        chance = random.Random(1900)
        seen = {}
        for n in range(1, 7):
            for belief in samples(1910 + n, n, 8):
                moves = any_moves(chance, n, belief)
                self.tells(True, is_moves, n, belief, moves)
                self.tells(plain_moved(moves), moved_by, belief, moves)
                seen[any(source == target for source, target, share in moves)] = True
                other = any_belief(chance, n)
                self.tells(plain_is_moves(n, other, moves), is_moves, n, other, moves)
        self.assertEqual(len(seen), 2)

    def test_any_thing(self):
        for thing in ODD_THINGS + (deep(60), long_thing(), (deep(59),), ((1, 1, deep(58)),)):
            self.tells(False, is_moves, 2, BELIEF, thing)
            self.tells(False, is_moves, 2, BELIEF, MOVES[:2] + (thing,) + MOVES[3:])
            for k in range(3):
                move = [1, 1, (1, 8)]
                move[k] = thing
                self.tells(False, is_moves, 2, BELIEF, MOVES[:2] + (tuple(move),) + MOVES[3:])
        self.tells(False, is_moves, 2, BELIEF, MOVES * 20000)

    def test_spoiled_moves(self):
        chance = random.Random(1920)
        for n in range(1, 5):
            for k in range(4):
                belief = any_belief(chance, n, many=chance.randint(1, 3))
                for thing in spoiled(any_moves(chance, n, belief, most=2)):
                    self.tells(plain_is_moves(n, belief, thing), is_moves, n, belief, thing)

    def test_all_moves_of_six_cases_and_long_shares(self):
        rows = []
        for some in range(64):
            for inner in within(some):
                rows.append((some, inner, as_pair(Fraction(1, 64 * len(within(some))))))
        belief = tuple((some, (1, 64)) for some in range(64))
        self.assertEqual(len(rows), 729)
        self.tells(True, is_moves, 6, belief, tuple(rows))
        self.tells(plain_moved(rows), moved_by, belief, tuple(rows))
        chance = random.Random(1930)
        tops = [chance.randrange(1, 10 ** 195) for some in range(64)]
        belief = tuple((some, as_pair(Fraction(top, sum(tops)))) for some, top in enumerate(tops))
        moves = any_moves(chance, 6, belief)
        self.tells(True, is_moves, 6, belief, moves)
        source, target, share = moves[-1]
        wrong = moves[:-1] + ((source, target, as_pair(as_number(share) - Fraction(1, 10 ** 590))),)
        self.tells(False, is_moves, 6, belief, wrong)


class Lets(Case):
    def lets(self, wanted, *told):
        self.tells(wanted, lets_moved, *told)

    def test_moves(self):
        one = plain_moved(MOVES)
        self.lets(True, 2, one, BELIEF, ("moves", MOVES))
        for thing in (["moves", MOVES], ("moves",), ("moves", MOVES, MOVES), ("lacks", MOVES), ("moves", list(MOVES)),
                      ("Moves", MOVES), (None, MOVES), (MOVES,), MOVES, ("moves", ()), ("moves", None), "moves", None,
                      ("moves", MOVES[1:]), ("moves", MOVES + MOVES[-1:]), ("moves", MOVES[::-1]), (MOVES, "moves")):
            self.lets(False, 2, one, BELIEF, thing)
        # Moves that lead elsewhere, moves of another belief, the beliefs exchanged.
        stay = tuple((some, some, share) for some, share in BELIEF)
        self.lets(False, 2, one, BELIEF, ("moves", stay))
        self.lets(True, 2, BELIEF, BELIEF, ("moves", stay))
        self.lets(False, 2, BELIEF, one, ("moves", MOVES))
        self.lets(False, 2, one, one, ("moves", MOVES))
        self.lets(False, 2, BELIEF, BELIEF, ("moves", MOVES))

    def test_moves_that_lead_to_fewer_or_more_sets(self):
        other = ((3, ONE),)
        moves = ((3, 1, HALF), (3, 2, HALF))
        self.lets(True, 2, ((1, HALF), (2, HALF)), other, ("moves", moves))
        for one in (((1, ONE),), ((1, HALF), (3, HALF)), ((1, HALF), (2, (1, 4)), (3, (1, 4))), ((0, HALF), (1, HALF)),
                    ((1, THIRD), (2, (2, 3)))):
            self.lets(False, 2, one, other, ("moves", moves))

    def test_lacks(self):
        one, other = ((1, HALF), (2, THIRD), (3, (1, 6))), ((1, THIRD), (2, (1, 6)), (3, HALF))
        wanted = {family: is_plain_lack(2, one, other, family) for family in (
            (), (0,), (1,), (2,), (3,), (1, 2), (1, 3), (2, 3), (1, 2, 3), (0, 1), (0, 1, 2, 3))}
        for family in wanted:
            self.lets(wanted[family], 2, one, other, ("lacks", family))
        # In the one half of the share is on 1; in the other a third, and half of it on 3: together more.
        self.assertFalse(any(wanted.values()))
        one, other = ((1, HALF), (2, THIRD), (3, (1, 6))), ((1, THIRD), (2, (7, 12)), (3, (1, 12)))
        self.lets(True, 2, one, other, ("lacks", (1,)))
        self.lets(True, 2, one, other, ("lacks", (1, 3)))
        self.lets(False, 2, one, other, ("lacks", (2,)))
        for family in ((1, 1), (3, 1), [1], (1, 4), (-1, 1), (True,), (1, None), ((1,),), ("1",), 1, True, None, "1",
                       (), (10 ** 599,), (1, 3, 3), (False, 1)):
            self.lets(False, 2, one, other, ("lacks", family))
        for thing in (["lacks", (1,)], ("lacks",), ("lacks", (1,), (1,)), ("moves", (1,)), ("LACKS", (1,)),
                      ((1,), "lacks"), ("lacks", (1,), 0), (None, (1,)), (True, (1,)), ("lack", (1,))):
            self.lets(False, 2, one, other, thing)

    def test_a_family_of_just_as_much(self):
        one, other = ((1, HALF), (2, HALF)), ((1, (1, 4)), (2, HALF), (3, (1, 4)))
        self.lets(False, 2, one, other, ("lacks", (1,)))
        tiny = Fraction(1, 10 ** 199)
        more = ((1, as_pair(Fraction(1, 2) + tiny)), (2, as_pair(Fraction(1, 2) - tiny)))
        self.lets(True, 2, more, other, ("lacks", (1,)))
        less = ((1, as_pair(Fraction(1, 2) - tiny)), (2, as_pair(Fraction(1, 2) + tiny)))
        self.lets(False, 2, less, other, ("lacks", (1,)))

    def test_a_family_with_none(self):
        # All sets have NONE within them, so a family with it never lacks.
        for n in (1, 2, 3):
            one = ((0, ONE),)
            for other in samples(1940 + n, n, 3):
                self.lets(False, n, one, other, ("lacks", (0,)))
                self.lets(False, n, other, one, ("lacks", (0,) + tuple(range(1, 2 ** n))))

    def test_any_thing(self):
        one = plain_moved(MOVES)
        for thing in ODD_THINGS + (deep(60), long_thing(), MOVES * 20000):
            for whole in (thing, ("moves", thing), (thing, MOVES)):
                self.lets(False, 2, one, BELIEF, whole)
            self.lets(is_plain_lack(2, BELIEF, one, thing), 2, BELIEF, one, ("lacks", thing))

    def test_spoiled_papers(self):
        chance = random.Random(1950)
        seen = {}
        for n in range(1, 5):
            for k in range(8):
                other = any_belief(chance, n, many=chance.randint(1, 3))
                one = any_belief(chance, n, many=3) if k % 2 else plain_moved(any_moves(chance, n, other, most=2))
                paper = moved_paper(n, one, other)
                for thing in [paper] + list(spoiled(paper)):
                    wanted = plain_lets_moved(n, one, other, thing)
                    seen[paper[0], wanted] = True
                    self.lets(wanted, n, one, other, thing)
        self.assertEqual(len(seen), 4)


if __name__ == "__main__":
    unittest.main()
