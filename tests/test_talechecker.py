"""[48], [49], [50], the tale checker."""

import random
import unittest
from fractions import Fraction

from beliefsets.errors import NoPaper
from beliefsets.talechecker import lets_tale
from samples import (ODD_THINGS, Case, alike, as_belief, as_number, as_pair, deep, is_plain_number, long_thing, sample,
                     spoiled)
from test_finer import any_map, plain_coarser, plain_finer, plain_is_map
from test_joining import plain_both, plain_cleaned, plain_either
from test_tables import plain_shares, plain_table
from test_taking import plain_elder
from test_weaker import any_share, plain_weaker

LENGTHS = {"piece": 2, "both": 3, "either": 3, "weaker": 3, "finer": 3, "coarser": 3, "taken": 3, "cleaned": 2}
HALF = (1, 2)
ALL_CLASH = ((0, (1, 1)),)


def is_plain_fraction(thing):
    if type(thing) is not tuple or len(thing) != 2 or not all(type(one) is int for one in thing) or thing[1] < 1:
        return False
    return as_pair(Fraction(*thing)) == thing


def is_plain_belief(n, thing):
    if type(thing) is not tuple or not thing or not all(type(row) is tuple and len(row) == 2 for row in thing):
        return False
    if not all(is_plain_number(some, 0, 2 ** n) and is_plain_fraction(share) and share[0] > 0 for some, share in thing):
        return False
    sets = [some for some, share in thing]
    return sets == sorted(set(sets)) and sum(Fraction(*share) for some, share in thing) == 1


def plain_rule(pieces, ahead, n, rule):
    """Whether a rule can stand for a row of n cases, as [49] tells of "rule"."""
    if type(rule) is not tuple or not rule or type(rule[0]) is not str or LENGTHS.get(rule[0]) != len(rule):
        return False
    if rule[0] == "piece":
        return is_plain_number(rule[1], 0, len(pieces)) and pieces[rule[1]][0] == n
    if not is_plain_number(rule[1], 0, len(ahead)):
        return False
    m, belief = ahead[rule[1]]
    if rule[0] == "finer":
        return plain_is_map(m, n, rule[2])
    if rule[0] == "coarser":
        return plain_is_map(n, m, rule[2])
    if m != n:
        return False
    if rule[0] == "weaker":
        return is_plain_fraction(rule[2]) and 0 <= Fraction(*rule[2]) <= 1
    if rule[0] == "cleaned":
        return belief != ALL_CLASH
    if not is_plain_number(rule[2], 0, len(ahead)) or ahead[rule[2]][0] != n:
        return False
    return rule[0] != "taken" or ahead[rule[2]][1][-1][0] == 2 ** n - 1


def plain_made(pieces, ahead, n, rule):
    """What a rule that can stand there makes, None where there is no elder."""
    if rule[0] == "piece":
        return pieces[rule[1]][1]
    belief = ahead[rule[1]][1]
    if rule[0] == "weaker":
        return plain_weaker(n, belief, rule[2])
    if rule[0] in ("finer", "coarser"):
        return {"finer": plain_finer, "coarser": plain_coarser}[rule[0]](rule[2], belief)
    if rule[0] == "cleaned":
        return plain_cleaned(belief)
    other = ahead[rule[2]][1]
    if rule[0] == "taken":
        shares = plain_elder(n, belief, other)
        return as_belief(shares) if min(shares.values()) >= 0 else None
    return {"both": plain_both, "either": plain_either}[rule[0]](belief, other)


def plain_claim(ahead, claim):
    if type(claim) is not tuple or len(claim) != 4 or not is_plain_number(claim[1], 0, len(ahead)):
        return False
    word, row, some, bound = claim
    n, belief = ahead[row]
    if not is_plain_number(some, 0, 2 ** n) or not is_plain_fraction(bound) or word not in ("surely", "may"):
        return False
    found = as_number(plain_table(word, n, belief)[some])
    return found >= as_number(bound) if word == "surely" else found <= as_number(bound)


def plain_verdict(pieces, thing):
    """None of a right tale, else the word and the number of the refusal."""
    if type(thing) is not tuple or len(thing) != 2 or not all(type(one) is tuple for one in thing):
        return ("shape", -1)
    if not 1 <= len(thing[0]) <= 24 or len(thing[1]) > 24:
        return ("shape", -1)
    ahead = []
    for number, row in enumerate(thing[0]):
        if type(row) is not tuple or len(row) != 3 or not is_plain_number(row[1], 1, 7):
            return ("row", number)
        rule, n, belief = row
        if not is_plain_belief(n, belief):
            return ("row", number)
        if not plain_rule(pieces, ahead, n, rule):
            return ("rule", number)
        if not alike(plain_made(pieces, ahead, n, rule), belief):
            return ("wrong", number)
        ahead.append((n, belief))
    for number, claim in enumerate(thing[1]):
        if not plain_claim(ahead, claim):
            return ("claim", number)
    return None


def any_rule(chance, pieces, ahead):
    """Any rule that can stand there, or one that can't, by chance."""
    word = chance.choice(sorted(LENGTHS)) if ahead else "piece"
    if word == "piece":
        return (word, chance.randrange(len(pieces)))
    number = chance.randrange(len(ahead))
    n = ahead[number][0]
    if word == "cleaned":
        return (word, number)
    if word == "weaker":
        return (word, number, any_share(chance) if chance.randint(0, 1) else chance.choice(((0, 1), (1, 1), (1, 3))))
    if word == "finer":
        return (word, number, any_map(chance, n, chance.randint(n, 6)))
    if word == "coarser":
        return (word, number, any_map(chance, chance.randint(1, n), n))
    return (word, number, chance.choice([k for k, row in enumerate(ahead) if row[0] == n]))


def cases_of(pieces, ahead, rule):
    """The n of the row that a rule makes."""
    if rule[0] == "piece":
        return pieces[rule[1]][0]
    if rule[0] == "coarser":
        return len(rule[2])
    return sum(rule[2]).bit_length() if rule[0] == "finer" else ahead[rule[1]][0]


def any_row(chance, pieces, ahead):
    """A right row behind those ahead, with shares of no more than five hundred figures."""
    while True:
        rule = any_rule(chance, pieces, ahead)
        n = cases_of(pieces, ahead, rule)
        made = plain_made(pieces, ahead, n, rule) if plain_rule(pieces, ahead, n, rule) else None
        if made and max(share[1] for some, share in made) < 10 ** 500:
            return (rule, n, made)


def any_tale(chance, pieces, many, claims):
    """A right tale for pieces, by any rules, with claims that are so."""
    rows = []
    for k in range(many):
        rows.append(any_row(chance, pieces, [(n, belief) for rule, n, belief in rows]))
    found = []
    for k in range(claims):
        number = chance.randrange(many)
        word = chance.choice(("surely", "may"))
        rule, n, belief = rows[number]
        some = chance.randrange(2 ** n)
        told = as_number(plain_table(word, n, belief)[some])
        spare = chance.choice((Fraction(0), Fraction(1, 7), Fraction(2)))
        found.append((word, number, some, as_pair(told - spare if word == "surely" else told + spare)))
    return (tuple(rows), tuple(found))


def any_pieces(chance, many, most):
    found = []
    for k in range(many):
        n = chance.randint(1, most)
        found.append((n, sample(chance, n, must=[2 ** n - 1] if chance.randint(0, 1) else [])))
    return found


def near_ones(n, belief):
    """Beliefs whose COMMON, or whose HELD, is another one than a belief's at one set alone."""
    step = min(as_number(share) for some, share in belief) / 2
    for word in ("common", "held"):
        table = plain_table(word, n, belief)
        for some in range(2 ** n):
            for sign in (1, -1):
                other = table[:some] + (as_pair(as_number(table[some]) + sign * step),) + table[some + 1:]
                shares = plain_shares(word, n, other)
                if min(shares.values()) >= 0 and sum(shares.values()) == 1:
                    yield as_belief(shares)


def one_of_each():
    """Pieces, and a right tale with each of the eight rules and both words."""
    pieces = [(2, ((1, HALF), (3, HALF))), (2, ((2, (1, 3)), (3, (2, 3))))]
    rows = (
        (("piece", 0), 2, ((1, HALF), (3, HALF))),
        (("piece", 1), 2, ((2, (1, 3)), (3, (2, 3)))),
        (("both", 0, 1), 2, ((0, (1, 6)), (1, (1, 3)), (2, (1, 6)), (3, (1, 3)))),
        (("either", 0, 1), 2, ((3, (1, 1)),)),
        (("weaker", 0, (1, 3)), 2, ((1, (1, 6)), (3, (5, 6)))),
        (("finer", 0, (2, 5)), 3, ((2, HALF), (7, HALF))),
        (("coarser", 2, (3,)), 1, ((0, (1, 6)), (1, (5, 6)))),
        (("taken", 2, 0), 2, ((2, (1, 3)), (3, (2, 3)))),
        (("cleaned", 2), 2, ((1, (2, 5)), (2, (1, 5)), (3, (2, 5)))),
    )
    return pieces, (rows, (("surely", 8, 1, (2, 5)), ("may", 8, 1, (4, 5))))


class Verdicts(Case):
    def judge(self, pieces, thing):
        found = plain_verdict(pieces, thing)
        if found is None:
            self.tells(True, lets_tale, pieces, thing)
        else:
            self.refuses(NoPaper, {"word": found[0], "row": found[1]}, lets_tale, pieces, thing)
        return found

    def refused(self, word, number, pieces, thing):
        self.assertEqual(plain_verdict(pieces, thing), (word, number))
        self.judge(pieces, thing)


class RightTales(Verdicts):
    def test_one_of_each(self):
        pieces, tale = one_of_each()
        self.assertIsNone(self.judge(pieces, tale))

    def test_any_tales(self):
        chance = random.Random(1200)
        seen = {}
        for k in range(40):
            pieces = any_pieces(chance, chance.randint(1, 8), 6 if k % 4 == 0 else 3)
            tale = any_tale(chance, pieces, chance.randint(1, 24), chance.randint(0, 24))
            self.assertIsNone(self.judge(pieces, tale))
            for rule, n, belief in tale[0]:
                seen[rule[0]] = seen.get(rule[0], 0) + 1
        self.assertEqual(sorted(seen), sorted(LENGTHS))
        self.assertGreater(min(seen.values()), 10)

    def test_how_many(self):
        pieces = [(1, ((1, (1, 1)),))]
        row, claim = (("piece", 0), 1, ((1, (1, 1)),)), ("surely", 0, 1, (1, 1))
        self.assertIsNone(self.judge(pieces, ((row,), ())))
        self.assertIsNone(self.judge(pieces, ((row,) * 24, (claim,) * 24)))
        self.refused("shape", -1, pieces, ((), ()))
        self.refused("shape", -1, pieces, ((), (claim,)))
        self.refused("shape", -1, pieces, ((row,) * 25, ()))
        self.refused("shape", -1, pieces, ((row,), (claim,) * 25))
        # So many things are asked ahead of what they are.
        self.refused("shape", -1, pieces, ((None,) * 25, ()))
        self.refused("row", 0, pieces, ((None,) * 24, (None,) * 24))

    def test_long_shares_and_many_sets(self):
        chance = random.Random(1210)
        pieces = [(6, sample(chance, 6, many=16, must=[63])) for k in range(3)]
        rows = [(("piece", k), 6, pieces[k][1]) for k in range(3)]
        share = as_pair(Fraction(chance.randrange(10 ** 298, 10 ** 299), chance.randrange(10 ** 299, 10 ** 300)))
        for rule in (("both", 0, 1), ("both", 3, 2), ("weaker", 4, share), ("either", 4, 4), ("taken", 4, 2),
                     ("cleaned", 5), ("coarser", 5, (1, 60, 2)), ("finer", 9, (8, 54, 1))):
            ahead = [(n, belief) for word, n, belief in rows]
            n = cases_of(pieces, ahead, rule)
            rows.append((rule, n, plain_made(pieces, ahead, n, rule)))
        self.assertGreater(max(len(belief) for rule, n, belief in rows), 40)
        claims = tuple((word, 5, 62, plain_table(word, 6, rows[5][2])[62]) for word in ("surely", "may"))
        self.assertGreater(claims[0][3][1], 10 ** 290)
        self.assertIsNone(self.judge(pieces, (tuple(rows), claims)))
        rule, n, belief = rows[5]
        other = plain_weaker(6, belief, (10 ** 300 - 1, 10 ** 300))
        self.refused("wrong", 5, pieces, (tuple(rows[:5]) + ((rule, n, other),), ()))


class WrongTales(Verdicts):
    def test_spoiled_tales(self):
        chance = random.Random(1220)
        seen = {}
        told = [one_of_each()]
        for k in range(4):
            pieces = [(n, sample(chance, n, many=2, must=[2 ** n - 1], most=12)) for n in (1, 2)]
            told.append((pieces, any_tale(chance, pieces, 4, 2)))
        for pieces, tale in told:
            for thing in spoiled(tale):
                found = self.judge(pieces, thing)
                seen[found and found[0]] = True
        self.assertEqual(set(seen), {None, "shape", "row", "rule", "wrong", "claim"})

    def test_any_thing(self):
        pieces, (rows, claims) = one_of_each()
        for thing in ODD_THINGS + (deep(60), [rows, claims], (rows, list(claims)), (list(rows), claims), long_thing()):
            pairs = alike(thing, ((1, 2), (1, 2)))
            self.refused("row" if pairs else "shape", 0 if pairs else -1, pieces, thing)
        for thing in ODD_THINGS + (deep(50), long_thing()):
            self.refused("row", 3, pieces, (rows[:3] + (thing,), claims))
            self.refused("claim", 1, pieces, (rows, (claims[0], thing)))
            self.refused("rule", 3, pieces, (rows[:3] + ((thing, 2, rows[3][2]),), claims))
            self.refused("row", 3, pieces, (rows[:3] + ((("piece", 0), 2, thing),), claims))
            self.refused("row", 3, pieces, (rows[:3] + ((("piece", 0), thing, rows[0][2]),), claims))

    def test_each_thing_in_each_rule(self):
        pieces, (rows, claims) = one_of_each()
        for number, (rule, n, belief) in enumerate(rows):
            for k in range(len(rule)):
                for thing in ODD_THINGS + (deep(50), number, number + 1, 24, 2, 7, "piece", "both", "cleaned"):
                    self.judge(pieces, (rows[:number] + ((rule[:k] + (thing,) + rule[k + 1:], n, belief),), ()))

    def test_numbers_of_no_row_ahead(self):
        pieces, (rows, claims) = one_of_each()
        for number in range(2, 9):
            rule, n, belief = rows[number]
            for k in range(1, len(rule)):
                if k == 1 or rule[0] in ("both", "either", "taken"):
                    for thing in (number, number + 1, -1, -number, True, False, "0", None, (0,), 10 ** 599):
                        row = (rule[:k] + (thing,) + rule[k + 1:], n, belief)
                        self.refused("rule", number, pieces, (rows[:number] + (row,) + rows[number + 1:], claims))
        for thing in (2, -1, True, False, "0", None):
            self.refused("rule", 0, pieces, (((("piece", thing), 2, rows[0][2]),), ()))

    def test_another_n(self):
        pieces = [(1, ((1, (1, 1)),)), (2, ((3, (1, 1)),))]
        rows = ((("piece", 0), 1, ((1, (1, 1)),)), (("piece", 1), 2, ((3, (1, 1)),)))
        self.assertIsNone(self.judge(pieces, (rows, ())))
        # A belief of one case is one of two cases, too: only its n tells that it is another row.
        self.refused("rule", 0, pieces, (((("piece", 0), 2, ((1, (1, 1)),)),), ()))
        self.refused("rule", 0, pieces, (((("piece", 1), 3, ((3, (1, 1)),)),), ()))
        for rule in (("both", 0, 1), ("both", 1, 0), ("either", 0, 1), ("either", 1, 0), ("taken", 0, 1),
                     ("taken", 1, 0), ("both", 0, 0), ("weaker", 0, (1, 1)), ("cleaned", 0), ("taken", 0, 0)):
            self.refused("rule", 2, pieces, (rows + ((rule, 2, ((1, (1, 1)),)),), ()))
        for n, m in ((1, 2), (2, 2), (2, 3), (3, 3)):
            self.judge(pieces, (rows + ((("finer", 1, (1, 2)), n, ((n, (1, 1)),)),), ()))
            self.judge(pieces, (rows + ((("coarser", 1, (1, 2)), n, ((n, (1, 1)),)),), ()))
        self.refused("rule", 2, pieces, (rows + ((("finer", 1, (1, 2)), 3, ((3, (1, 1)),)),), ()))
        self.refused("rule", 2, pieces, (rows + ((("coarser", 1, (3,)), 2, ((1, (1, 1)),)),), ()))

    def test_not_wide_and_all_clash(self):
        blind = ((1, (1, 1)),)
        pieces = [(2, blind), (2, ALL_CLASH)]
        rows = ((("piece", 0), 2, blind), (("piece", 1), 2, ALL_CLASH))
        self.refused("rule", 2, pieces, (rows + ((("taken", 0, 0), 2, blind),), ()))
        self.refused("rule", 2, pieces, (rows + ((("cleaned", 1), 2, ALL_CLASH),), ()))
        self.refused("rule", 2, pieces, (rows + ((("cleaned", 1), 2, blind),), ()))
        self.assertIsNone(self.judge(pieces, (rows + ((("cleaned", 0), 2, blind),), ())))

    def test_no_elder(self):
        silent, half = ((3, (1, 1)),), ((1, HALF), (3, HALF))
        pieces = [(2, silent), (2, half)]
        rows = ((("piece", 0), 2, silent), (("piece", 1), 2, half))
        for made in (silent, half, ALL_CLASH, ((1, (1, 1)),)):
            self.refused("wrong", 2, pieces, (rows + ((("taken", 0, 1), 2, made),), ()))

    def test_another_belief(self):
        chance = random.Random(1230)
        for k in range(15):
            pieces = any_pieces(chance, 3, 4)
            rows, claims = any_tale(chance, pieces, 8, 1)
            for number, (rule, n, belief) in enumerate(rows):
                others = [sample(chance, n), plain_weaker(n, belief, (998, 999)), ((0, (1, 1)),),
                          ((2 ** n - 1, (1, 1)),), plain_both(belief, sample(chance, n, many=2))]
                for other in others:
                    if other != belief:
                        row = (rule, n, other)
                        self.refused("wrong", number, pieces, (rows[:number] + (row,) + rows[number + 1:], claims))

    def test_another_one_at_one_set_alone(self):
        chance = random.Random(1240)
        for n in (1, 2, 3):
            pieces = [(n, sample(chance, n, many=2 ** n, most=99)) for k in range(2)]
            rows = [(("piece", k), n, pieces[k][1]) for k in range(2)]
            same = tuple(2 ** k for k in range(n))
            for rule in (("both", 0, 1), ("either", 0, 1), ("weaker", 0, (1, 3)), ("finer", 0, same),
                         ("finer", 0, same[:-1] + (2 ** n + 2 ** (n - 1),)), ("coarser", 0, same),
                         ("coarser", 0, (2 ** n - 1,)), ("taken", 2, 1), ("cleaned", 0)):
                ahead = [(m, belief) for word, m, belief in rows]
                m = cases_of(pieces, ahead, rule)
                rows.append((rule, m, plain_made(pieces, ahead, m, rule)))
            self.assertIsNone(self.judge(pieces, (tuple(rows), ())))
            for number, (rule, m, belief) in enumerate(rows):
                others = list(near_ones(m, belief))
                self.assertTrue(others)
                for other in others:
                    self.refused("wrong", number, pieces, (tuple(rows[:number]) + ((rule, m, other),), ()))

    def test_seven_cases(self):
        pieces = [(6, ((63, (1, 1)),))]
        row = (("piece", 0), 6, ((63, (1, 1)),))
        self.refused("row", 1, pieces, ((row, (("finer", 0, (1, 2, 4, 8, 16, 96)), 7, ((127, (1, 1)),))), ()))
        self.refused("row", 1, pieces, ((row, (("finer", 0, (1, 2, 4, 8, 16, 32)), 0, ((0, (1, 1)),))), ()))

    def test_the_first_in_order(self):
        pieces, (rows, claims) = one_of_each()
        wrong = ("surely", 0, 1, (1, 1))
        self.refused("claim", 0, pieces, (rows, (wrong, wrong)))
        self.refused("claim", 1, pieces, (rows, (claims[0], wrong, None)))
        self.refused("wrong", 8, pieces, (rows[:8] + ((rows[8][0], 2, rows[0][2]),), (wrong,)))
        self.refused("rule", 7, pieces, (rows[:7] + ((("no",), 2, rows[0][2]), None), (wrong,)))
        self.refused("row", 7, pieces, (rows[:7] + ((("no",), 2, rows[0][2] * 2), None), (wrong,)))
        self.refused("wrong", 0, pieces, ((rows[1][:1] + rows[0][1:], None), (wrong,)))
        self.refused("row", 0, pieces, ((("no", 7, None),) + rows, (wrong,)))

    def test_claims(self):
        pieces, (rows, claims) = one_of_each()
        for word, some, told in (("surely", 1, (2, 5)), ("may", 1, (4, 5)), ("surely", 0, (0, 1)), ("may", 0, (0, 1)),
                                 ("surely", 3, (1, 1)), ("may", 3, (1, 1))):
            self.assertIsNone(self.judge(pieces, (rows, ((word, 8, some, told),))))
            for step in (Fraction(1, 10 ** 500), Fraction(3)):
                more, less = as_pair(as_number(told) + step), as_pair(as_number(told) - step)
                right, wrong = (less, more) if word == "surely" else (more, less)
                self.assertIsNone(self.judge(pieces, (rows, ((word, 8, some, right),))))
                self.refused("claim", 0, pieces, (rows, ((word, 8, some, wrong),)))
        # A clash is counted by neither word.
        self.assertIsNone(self.judge(pieces, (rows, (("surely", 2, 3, (5, 6)), ("may", 2, 3, (5, 6))))))
        self.refused("claim", 0, pieces, (rows, (("surely", 2, 3, (1, 1)),)))
        for claim in (("common", 8, 1, (0, 1)), ("held", 8, 1, (0, 1)), ("surely", 9, 1, (0, 1)), ("may", 8, 4, (1, 1)),
                      ("surely", 6, 2, (0, 1)), ("may", True, 1, (1, 1)), ("may", 8, True, (1, 1)), ("may", 8, 1, 1),
                      ("may", 8, 1, (2, 2)), ("may", 8, 1, (True, 1)), ["may", 8, 1, (1, 1)], ("may", 8, 1, [1, 1]),
                      ("may", -1, 1, (1, 1)), ("may", 8, -1, (1, 1)), ("may", 8, 1), ("may", 8, 1, (1, 1), 0)):
            self.refused("claim", 0, pieces, (rows, (claim,)))


if __name__ == "__main__":
    unittest.main()
