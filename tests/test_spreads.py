"""[55], [56], levels and layings."""

import random
import unittest
from fractions import Fraction

from beliefsets.spreads import is_laying, is_levels, level_at, levels_of
from samples import ODD_THINGS, Case, as_number, as_pair, cases, deep, long_thing, sample, spoiled
from test_talechecker import is_plain_fraction


def is_plain_row(n, thing):
    if type(thing) is not tuple or len(thing) != n:
        return False
    return all(is_plain_fraction(one) and 0 <= Fraction(*one) <= 1 for one in thing)


def plain_is_levels(n, thing):
    return is_plain_row(n, thing) and sum(Fraction(*one) for one in thing) == 1


def plain_is_laying(n, belief, thing):
    if type(thing) is not tuple or len(thing) != len(belief) or not all(is_plain_row(n, row) for row in thing):
        return False
    for (some, share), row in zip(belief, thing):
        if any(one != (0, 1) for case, one in enumerate(row) if case not in cases(some)):
            return False
        if sum(Fraction(*one) for one in row) != as_number(share):
            return False
    return True


def plain_levels_of(n, laying):
    return tuple(as_pair(sum(Fraction(*row[case]) for row in laying)) for case in range(n))


def parted(chance, whole, many):
    """A Fraction parted into many, some of them nought, by chance."""
    weights = [chance.choice((0, 0, 1, chance.randint(1, 99))) for k in range(many)]
    weights[chance.randrange(many)] += 1
    return [whole * weight / sum(weights) for weight in weights]


def any_laying(chance, n, belief):
    rows = []
    for some, share in belief:
        inside = sorted(cases(some))
        found = dict(zip(inside, parted(chance, as_number(share), len(inside))))
        rows.append(tuple(as_pair(found.get(case, Fraction(0))) for case in range(n)))
    return tuple(rows)


def any_levels(chance, n):
    return tuple(as_pair(one) for one in parted(chance, Fraction(1), n))


def closed(chance, n, many=None):
    return sample(chance, n, many=many, without=[0])


HALF, THIRD, NOUGHT, ONE = (1, 2), (1, 3), (0, 1), (1, 1)


class Levels(Case):
    def test_right_ones(self):
        chance = random.Random(1400)
        for n in range(1, 7):
            for k in range(10):
                self.tells(True, is_levels, n, any_levels(chance, n))
            for case in range(n):
                self.tells(True, is_levels, n, tuple(ONE if k == case else NOUGHT for k in range(n)))
            self.tells(True, is_levels, n, tuple(as_pair(Fraction(1, n)) for k in range(n)))
        self.tells(True, is_levels, 3, ((1, 10 ** 599), NOUGHT, (10 ** 599 - 1, 10 ** 599)))

    def test_wrong_ones(self):
        for thing in ((HALF,), (HALF, HALF, NOUGHT), [HALF, HALF], (HALF, [1, 2]), (HALF, (2, 4)), (HALF, THIRD),
                      (ONE, ONE), ((3, 2), (-1, 2)), ((-1, 2), (3, 2)), (ONE, 0), (ONE, (0, 2)), (ONE, (False, 1)),
                      ((True, 1), NOUGHT), ((1, True), NOUGHT), (1, 0), (True, False), (NOUGHT, NOUGHT), "10", None,
                      (HALF, (1, 2, 3)), (HALF, None), ((2, 1), (-1, 1)), (HALF, "1/2"), ((), ()), (ONE, ())):
            self.tells(False, is_levels, 2, thing)

    def test_any_thing(self):
        for thing in ODD_THINGS + (deep(60), (HALF, HALF)):
            for n in range(1, 7):
                self.tells(plain_is_levels(n, thing), is_levels, n, thing)
        self.tells(False, is_levels, 2, long_thing())
        chance = random.Random(1410)
        for n in range(1, 7):
            for thing in spoiled(any_levels(chance, n)):
                self.tells(plain_is_levels(n, thing), is_levels, n, thing)

    def test_level_at_each_set(self):
        chance = random.Random(1420)
        for n in range(1, 7):
            for k in range(3):
                levels = any_levels(chance, n)
                for some in range(2 ** n):
                    wanted = as_pair(sum([as_number(levels[case]) for case in cases(some)], Fraction(0)))
                    self.tells(wanted, level_at, levels, some)
                self.tells(NOUGHT, level_at, levels, 0)
                self.tells(ONE, level_at, levels, 2 ** n - 1)


class Layings(Case):
    def test_right_ones(self):
        chance = random.Random(1430)
        for n in range(1, 7):
            for k in range(8):
                belief = closed(chance, n)
                laying = any_laying(chance, n, belief)
                self.tells(True, is_laying, n, belief, laying)
                self.tells(plain_levels_of(n, laying), levels_of, n, laying)
                self.tells(True, is_levels, n, levels_of(n, laying))

    def test_wrong_ones(self):
        belief = ((1, HALF), (3, HALF))
        for thing in (((HALF, NOUGHT), (HALF, NOUGHT)), ((HALF, NOUGHT), (NOUGHT, HALF)),
                      ((HALF, NOUGHT), ((1, 6), THIRD))):
            self.tells(True, is_laying, 2, belief, thing)
        for thing in (
            ((NOUGHT, HALF), (HALF, NOUGHT)), (((1, 4), (1, 4)), (HALF, NOUGHT)), ((HALF, NOUGHT), (THIRD, NOUGHT)),
            ((HALF, NOUGHT), (HALF, HALF)), ((HALF, NOUGHT), (HALF, NOUGHT), (NOUGHT, NOUGHT)), ((HALF, NOUGHT),), (),
            [(HALF, NOUGHT), (HALF, NOUGHT)], ((HALF, NOUGHT), [HALF, NOUGHT]), ((HALF, NOUGHT), (HALF, NOUGHT, NOUGHT)),
            ((HALF,), (HALF, NOUGHT)), ((HALF, NOUGHT), (HALF, 0)), ((HALF, False), (HALF, NOUGHT)), None, "", True,
            ((HALF, (False, 1)), (HALF, NOUGHT)), ((HALF, (0, True)), (HALF, NOUGHT)), ((HALF, NOUGHT), ((3, 2), (-1, 1))),
            ((HALF, NOUGHT), ((2, 4), NOUGHT)), ((HALF, NOUGHT), (ONE, (-1, 2))), ((ONE, (-1, 2)), (HALF, NOUGHT)),
            ((HALF, NOUGHT), None), ((HALF, NOUGHT), (None, None)), ((HALF, (0, 2)), (HALF, NOUGHT)),
        ):
            self.tells(False, is_laying, 2, belief, thing)
        # The rows of another order are those of other sets.
        self.tells(False, is_laying, 2, belief, ((NOUGHT, HALF), (HALF, NOUGHT)))
        self.tells(False, is_laying, 1, ((1, ONE),), (((True, 1),),))
        self.tells(True, is_laying, 1, ((1, ONE),), ((ONE,),))

    def test_any_thing(self):
        chance = random.Random(1440)
        for n in range(1, 7):
            for many in (1, 2, 4):
                belief = closed(chance, n, many=many)
                for thing in ODD_THINGS + (deep(60),):
                    self.tells(plain_is_laying(n, belief, thing), is_laying, n, belief, thing)
                laying = any_laying(chance, n, belief)
                for thing in spoiled(laying):
                    self.tells(plain_is_laying(n, belief, thing), is_laying, n, belief, thing)
                other = any_laying(chance, n, closed(chance, n, many=many))
                self.tells(plain_is_laying(n, belief, other), is_laying, n, belief, other)
        self.tells(False, is_laying, 2, ((3, ONE),), long_thing())

    def test_levels_of_by_hand(self):
        self.tells((HALF, THIRD, (1, 6)), levels_of, 3, ((HALF, THIRD, (1, 6)),))
        self.tells(((5, 6), (1, 6)), levels_of, 2, ((HALF, NOUGHT), (THIRD, (1, 6))))
        self.tells((ONE,), levels_of, 1, ((ONE,),))

    def test_many_sets_and_long_shares(self):
        chance = random.Random(1450)
        tops = [chance.randrange(1, 10 ** 190) for some in range(63)]
        belief = tuple((some, as_pair(Fraction(top, sum(tops)))) for some, top in enumerate(tops, 1))
        laying = any_laying(chance, 6, belief)
        self.tells(True, is_laying, 6, belief, laying)
        self.tells(plain_levels_of(6, laying), levels_of, 6, laying)
        row = laying[62]
        wrong = tuple(as_pair(Fraction(*one) + step) for one, step in zip(row, (Fraction(1, 10 ** 400), 0, 0, 0, 0, 0)))
        self.tells(False, is_laying, 6, belief, laying[:62] + (wrong,))


if __name__ == "__main__":
    unittest.main()
