"""[70] to [73], things, scopes and pieces."""

import itertools
import random
import unittest
from fractions import Fraction

from beliefsets.tables import common, held, may, surely
from beliefsets.things import (everything, is_piece, is_scope, is_things, narrowed, rows_of, silent_piece, together,
                               widened)
from samples import ODD_THINGS, Case, as_number, as_pair, cases, deep, is_plain_number, long_thing, spoiled
from test_spreads import HALF, ONE, THIRD
from test_tables import counted
from test_talechecker import is_plain_belief

ALL_THINGS = [found for many in range(1, 7) for found in itertools.product((2, 3), repeat=many)]


def plain_rows(things, scope):
    return list(itertools.product(*[range(things[number]) for number in scope]))


def scopes_of(things, most=6):
    """All scopes of at most so many things."""
    found = []
    for many in range(min(most, len(things)) + 1):
        found += itertools.combinations(range(len(things)), many)
    return found


def is_plain_scope(things, thing):
    if type(thing) is not tuple or not all(is_plain_number(number, 0, len(things)) for number in thing):
        return False
    return list(thing) == sorted(set(thing))


def is_plain_piece(things, thing):
    if type(thing) is not tuple or len(thing) != 2 or not is_plain_scope(things, thing[0]):
        return False
    return is_plain_belief(len(plain_rows(things, thing[0])), thing[1])


def opened(things, piece):
    """A piece's shares as a dict from frozensets of rows, themselves tuples, to Fractions."""
    rows = plain_rows(things, piece[0])
    return {frozenset(row for at, row in enumerate(rows) if some & 2 ** at): as_number(share)
            for some, share in piece[1]}


def shut(things, scope, found):
    rows = plain_rows(things, scope)
    shares = [(sum(2 ** at for at, row in enumerate(rows) if row in some), as_pair(found[some])) for some in found]
    return (scope, tuple(sorted(shares)))


def part(row, own, scope):
    """The part in a scope of a row of another one."""
    return tuple(row[own.index(number)] for number in scope)


def plain_widened(things, piece, scope):
    found = {}
    for some, share in opened(things, piece).items():
        found[frozenset(row for row in plain_rows(things, scope) if part(row, scope, piece[0]) in some)] = share
    return shut(things, scope, found)


def plain_narrowed(things, piece, scope):
    found = {}
    for some, share in opened(things, piece).items():
        parts = frozenset(part(row, piece[0], scope) for row in some)
        found[parts] = found.get(parts, Fraction(0)) + share
    return shut(things, scope, found)


def plain_together(things, one, other):
    scope = tuple(sorted({*one[0], *other[0]}))
    rows = [(row, part(row, scope, one[0]), part(row, scope, other[0])) for row in plain_rows(things, scope)]
    found = {}
    for (a, x), (b, y) in itertools.product(opened(things, one).items(), opened(things, other).items()):
        some = frozenset(row for row, first, second in rows if first in a and second in b)
        found[some] = found.get(some, Fraction(0)) + x * y
    return shut(things, scope, found)


def any_things(chance, most=6):
    return tuple(chance.choice((2, 3)) for k in range(chance.randint(1, most)))


def any_scope(chance, things, most=3):
    many = chance.randint(0, min(most, len(things)))
    return tuple(sorted(chance.sample(range(len(things)), many)))


def any_piece(chance, things, scope=None, most=4):
    """A piece of at most so many sets, with clash or not."""
    if scope is None:
        scope = any_scope(chance, things)
    last = 2 ** len(plain_rows(things, scope))
    sets = {chance.randrange(chance.randint(0, 1), last) for k in range(chance.randint(1, most))}
    if chance.randint(0, 3) == 0:
        sets = (sets | {chance.choice((0, last - 1))}) if len(sets) < most else sets
    weights = [chance.randint(1, 999) for some in sets]
    return (scope, tuple((some, as_pair(Fraction(w, sum(weights)))) for some, w in zip(sorted(sets), weights)))


class Kinds(Case):
    def test_things(self):
        for things in ALL_THINGS:
            self.tells(True, is_things, things)
            self.tells(False, is_things, list(things))
        for thing in ((), (1,), (4,), (2, 1), (4, 3), (2,) * 7, (3,) * 7, (2, True), (True,), (False, 2), (0,), (-2,),
                      (2, -3), (2, "3"), ("2",), (2, None), ((2,),), ([2],), (2, (3,)), [2, 3], 2, 3, True, None, "23",
                      (10 ** 599,), (2, 3, 10 ** 599)) + ODD_THINGS + (deep(60), long_thing()):
            self.tells(False, is_things, thing)

    def test_scopes(self):
        for things in ((2,), (3, 2), (2, 3, 2), (3,) * 6):
            for scope in scopes_of(things):
                self.tells(True, is_scope, things, scope)
                self.tells(len(scope) < 2, is_scope, things, scope[::-1])
                self.tells(False, is_scope, things, list(scope))
                self.tells(False, is_scope, things, scope + (len(things),))
                self.tells(False, is_scope, things, scope + scope[-1:] if scope else None)
            for thing in ((0, 0), (-1,), (-1, 0), (False,), (True,), (0, True), (False, 1), ("0",), (None,), "",
                          "0", 0, None, ((),), ((0,),), ([0],), [], [0], (0, 1, 1), tuple(range(7)), (10 ** 599,)):
                self.tells(False, is_scope, things, thing)
            for thing in ODD_THINGS + (deep(60), long_thing()):
                self.tells(is_plain_scope(things, thing), is_scope, things, thing)

    def test_rows(self):
        for things in ((2,), (3,), (3, 2), (2, 3, 2), (2, 2, 3, 3, 2, 3)):
            for scope in scopes_of(things):
                self.tells(tuple(plain_rows(things, scope)), rows_of, things, scope)
        self.tells(((),), rows_of, (3, 3), ())
        self.tells(((0, 0), (0, 1), (0, 2), (1, 0), (1, 1), (1, 2)), rows_of, (2, 3, 3), (0, 2))
        self.assertEqual(len(rows_of((3,) * 6, tuple(range(6)))), 729)


class Pieces(Case):
    def test_right_ones(self):
        chance = random.Random(2400)
        for k in range(100):
            things = any_things(chance)
            piece = any_piece(chance, things, any_scope(chance, things, most=6), most=chance.choice((1, 4, 30)))
            self.tells(True, is_piece, things, piece)
        for scope, shares in (((), ((1, ONE),)), ((), ((0, ONE),)), ((), ((0, HALF), (1, HALF))), ((1,), ((7, ONE),)),
                              ((0, 1), ((0, HALF), (63, HALF))), ((0,), ((0, THIRD), (1, THIRD), (3, THIRD)))):
            self.tells(True, is_piece, (2, 3), (scope, shares))

    def test_wrong_ones(self):
        things = (2, 3)
        for thing in (
            ((), ()), ((), ((2, ONE),)), ((), ((-1, ONE),)), ((0,), ((4, ONE),)), ((1,), ((8, ONE),)),
            ((0, 1), ((64, ONE),)),
            ((1, 0), ((1, ONE),)), ((2,), ((1, ONE),)), ((0, 0), ((1, ONE),)), ((True,), ((1, ONE),)),
            ([0], ((1, ONE),)),
            ((0,), ((2, HALF), (1, HALF))), ((0,), ((1, HALF), (1, HALF))), ((0,), ((1, (2, 4)), (2, HALF))),
            ((0,), ((1, THIRD), (2, HALF))), ((0,), ((1, (0, 1)), (2, ONE))), ((0,), ((1, (-1, 2)), (2, (3, 2)))),
            ((0,), [(1, ONE)]), ((0,), ([1, ONE],)), ((0,), ((1, [1, 1]),)), [(0,), ((1, ONE),)],
            ((0,), ((True, ONE),)),
            ((0,), ((False, HALF), (1, HALF))), ((0,), ((1, (True, 1)),)), ((0,), ((1, (1, True)),)), ((0,), ((1, 1),)),
            ((0,), ((1, True),)), ((0,), (1, ONE)), ((0,),), ((0,), ((1, ONE),), ()), (((1, ONE),), (0,)),
            (0, ((1, ONE),)),
            (None, ((1, ONE),)), ((0,), None), ((0,), ()), ((0,), (None,)), ((0,), "1"), ("", ((1, ONE),)), (),
            None, True,
            ((0,), ((1, ONE), (2, ONE))), ((0,), ((1, (2, 1)),)), ((0,), (((1,), ONE),)), ((0,), (("1", ONE),)),
        ):
            self.tells(False, is_piece, things, thing)

    def test_any_thing(self):
        for things in ((2,), (3, 2)):
            for thing in ODD_THINGS + (deep(60), long_thing()):
                self.tells(is_plain_piece(things, thing), is_piece, things, thing)
                self.tells(is_plain_piece(things, ((), thing)), is_piece, things, ((), thing))
                self.tells(is_plain_piece(things, (thing, ((1, ONE),))), is_piece, things, (thing, ((1, ONE),)))
        self.tells(False, is_piece, (3,) * 6, (tuple(range(6)), long_thing()))

    def test_many_shares(self):
        things, scope = (3,) * 6, tuple(range(6))
        shares = tuple((2 ** 700 + k, (1, 16000)) for k in range(16000))
        self.tells(True, is_piece, things, (scope, shares))
        self.tells(False, is_piece, things, (scope, shares[:-1]))
        self.tells(False, is_piece, things, (scope, shares[:-1] + ((2 ** 729, (1, 16000)),)))
        self.tells(True, is_piece, things, (scope, shares[:-1] + ((2 ** 729 - 1, (1, 16000)),)))

    def test_many_long_shares(self):
        # One bottom of all these would be very long; that they don't come to one is told without it.
        chance = random.Random(2405)
        shares = []
        for k in range(1000):
            bottom = chance.randrange(10 ** 598, 10 ** 599)
            shares.append((k, as_pair(Fraction(chance.randrange(1, bottom), bottom * 499))))
        self.tells(False, is_piece, (3,) * 6, (tuple(range(6)), tuple(shares)))

    def test_spoiled_pieces(self):
        chance = random.Random(2410)
        for k in range(8):
            things = any_things(chance, most=4)
            for thing in spoiled(any_piece(chance, things)):
                self.tells(is_plain_piece(things, thing), is_piece, things, thing)

    def test_silent(self):
        for things in ((2,), (3, 2), (2, 3, 3, 2, 2, 3)):
            for scope in scopes_of(things):
                many = len(plain_rows(things, scope))
                self.tells((scope, ((2 ** many - 1, ONE),)), silent_piece, things, scope)

    def test_what_is_told_of_its_shares(self):
        chance = random.Random(2420)
        for k in range(40):
            things = any_things(chance)
            scope = any_scope(chance, things, most=5)
            shares = any_piece(chance, things, scope, most=12)[1]
            last = 2 ** len(plain_rows(things, scope))
            for some in [0, last - 1] + [chance.randrange(last) for j in range(3)] + [inner for inner, share in shares]:
                for word, function in (("surely", surely), ("may", may), ("common", common), ("held", held)):
                    found = [as_number(share) for inner, share in shares if counted(word, cases(inner), cases(some))]
                    self.tells(as_pair(sum(found, Fraction(0))), function, shares, some)


class WiderAndNarrower(Case):
    def test_any_piece(self):
        chance = random.Random(2430)
        for k in range(60):
            things = any_things(chance, most=5)
            outer = any_scope(chance, things, most=4)
            inner = tuple(number for number in outer if chance.randint(0, 1))
            piece = any_piece(chance, things, inner)
            self.tells(plain_widened(things, piece, outer), widened, things, piece, outer)
            piece = any_piece(chance, things, outer, most=6)
            self.tells(plain_narrowed(things, piece, inner), narrowed, things, piece, inner)

    def test_by_hand(self):
        # Rows of (0, 1) with values 2 and 3: 00 01 02 10 11 12.
        self.tells(((0, 1), ((0b000111, HALF), (0b111111, HALF))), widened, (2, 3), ((0,), ((1, HALF), (3, HALF))),
                   (0, 1))
        self.tells(((0, 1), ((0b001001, ONE),)), widened, (2, 3), ((1,), ((1, ONE),)), (0, 1))
        self.tells(((1,), ((0b011, ONE),)), narrowed, (2, 3), ((0, 1), ((0b010001, ONE),)), (1,))
        self.tells(((0,), ((0b01, HALF), (0b11, HALF))), narrowed, (2, 3),
                   ((0, 1), ((0b000010, THIRD), (0b000100, (1, 6)), (0b010001, HALF))), (0,))
        # The order of the sets may be another one behind it.
        self.tells(((0, 1), ((5, THIRD), (10, (2, 3)))), widened, (2, 2), ((1,), ((1, THIRD), (2, (2, 3)))), (0, 1))

    def test_none_stays_none(self):
        things = (2, 3, 2)
        for scope in scopes_of(things):
            piece = (scope, ((0, ONE),))
            self.tells(((0, 1, 2), ((0, ONE),)), widened, things, piece, (0, 1, 2))
            self.tells(((), ((0, ONE),)), narrowed, things, piece, ())
            self.tells(piece, widened, things, piece, scope)
            self.tells(piece, narrowed, things, piece, scope)
        self.tells(((), ((0, THIRD), (1, (2, 3)))), narrowed, things,
                   ((1,), ((0, THIRD), (1, THIRD), (6, THIRD))), ())
        self.tells(((1,), ((0, THIRD), (7, (2, 3)))), widened, things, ((), ((0, THIRD), (1, (2, 3)))), (1,))

    def test_widened_and_narrowed_again(self):
        chance = random.Random(2440)
        for k in range(80):
            things = any_things(chance)
            piece = any_piece(chance, things)
            outer = tuple(n for n in range(len(things)) if n in piece[0] or chance.randint(0, 1))
            self.tells(piece, narrowed, things, widened(things, piece, outer), piece[0])

    def test_narrowed_in_two_steps(self):
        chance = random.Random(2450)
        for k in range(80):
            things = any_things(chance)
            piece = any_piece(chance, things, any_scope(chance, things, most=6), most=8)
            middle = tuple(number for number in piece[0] if chance.randint(0, 2))
            inner = tuple(number for number in middle if chance.randint(0, 1))
            self.tells(narrowed(things, piece, inner), narrowed, things, narrowed(things, piece, middle), inner)


class Together(Case):
    def test_two(self):
        chance = random.Random(2460)
        for k in range(60):
            things = any_things(chance, most=5)
            one, other = any_piece(chance, things, any_scope(chance, things, 2)), any_piece(chance, things)
            wanted = plain_together(things, one, other)
            self.tells(wanted, together, things, one, other)
            self.tells(wanted, together, things, other, one)

    def test_silent_and_void_ones(self):
        chance = random.Random(2470)
        for k in range(20):
            things = any_things(chance)
            piece = any_piece(chance, things)
            self.tells(piece, together, things, piece, silent_piece(things, ()))
            self.tells(piece, together, things, silent_piece(things, piece[0]), piece)
            wider = tuple(range(len(things)))
            self.tells(widened(things, piece, wider), together, things, piece, silent_piece(things, wider))
            self.tells((piece[0], ((0, ONE),)), together, things, piece, ((), ((0, ONE),)))

    def test_clash_is_kept(self):
        self.tells(((0, 1), ((0, HALF), (1, HALF))), together, (2, 2), ((0,), ((0, HALF), (1, HALF))),
                   ((1,), ((1, ONE),)))
        self.tells(((0,), ((0, ONE),)), together, (2, 2), ((0,), ((1, ONE),)), ((0,), ((2, ONE),)))

    def test_any_order_and_brackets(self):
        chance = random.Random(2480)
        for k in range(25):
            things = any_things(chance)
            one, two, three = [any_piece(chance, things) for j in range(3)]
            wanted = together(things, together(things, one, two), three)
            for a, b, c in itertools.permutations((one, two, three)):
                self.tells(wanted, together, things, together(things, a, b), c)
                self.tells(wanted, together, things, a, together(things, b, c))
            self.tells(wanted, everything, things, [three, one, two])

    def test_everything(self):
        chance = random.Random(2490)
        for many in range(7):
            for k in range(4):
                things = any_things(chance, most=4)
                pieces = [any_piece(chance, things, any_scope(chance, things, 2), most=3) for j in range(many)]
                wanted = ((), ((1, ONE),))
                for piece in pieces:
                    wanted = plain_together(things, wanted, piece)
                self.tells(wanted, everything, things, pieces)
        self.tells(((), ((1, ONE),)), everything, (2, 3), [])
        self.tells(((), ((0, ONE),)), everything, (2, 3), [((), ((0, ONE),)), ((), ((1, ONE),))])

    def test_six_large_ones_and_handed_in_again(self):
        chance = random.Random(2500)
        things = (3,) * 6
        scopes = ((0, 1, 2), (1, 2, 3), (2, 3, 4), (3, 4, 5), (0, 3, 5), (1, 4, 5))
        pieces = [any_piece(chance, things, scope) for scope in scopes]
        whole = self.ask(everything, things, pieces)
        self.assertEqual(whole[0], tuple(range(6)))
        self.tells(True, is_piece, things, whole)
        self.tells(whole, everything, things, pieces[::-1])
        self.tells(narrowed(things, whole, (1, 2)), narrowed, things, narrowed(things, whole, (0, 1, 2, 5)), (1, 2))
        self.tells(together(things, whole, pieces[0]), everything, things, [pieces[0], whole])

    def test_narrowed_to_the_first_ones_scope(self):
        chance = random.Random(2510)
        for k in range(80):
            things = any_things(chance)
            one, other = any_piece(chance, things), any_piece(chance, things)
            shared = tuple(number for number in one[0] if number in other[0])
            wanted = together(things, one, narrowed(things, other, shared))
            self.tells(wanted, narrowed, things, together(things, one, other), one[0])


if __name__ == "__main__":
    unittest.main()
