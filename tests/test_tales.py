"""[51], tales told; with [48] and [49], that they are let by."""

import random
import unittest
from fractions import Fraction

from beliefsets.errors import NoPaper, TooMany
from beliefsets.talechecker import lets_tale
from beliefsets.tales import tale_of
from samples import ODD_THINGS, Case, as_pair, deep, long_thing, sample, spoiled
from test_tables import plain_table
from test_talechecker import (ALL_CLASH, HALF, LENGTHS, any_pieces, any_rule, any_share, one_of_each, plain_made,
                              plain_rule)


def plain_tale(pieces, rules, asked):
    """The tale of [51], or a tuple of the refusal's class and fields."""
    rows = []
    for k, rule in enumerate(rules):
        ahead = [(n, belief) for word, n, belief in rows]
        sizes = [n for n in range(1, 7) if plain_rule(pieces, ahead, n, rule)]
        made = plain_made(pieces, ahead, sizes[0], rule) if sizes else None
        if made is None:
            return NoPaper, {"word": "rule", "row": k}
        if max(len(str(one)) for some, share in made for one in share) > 40:
            return TooMany, {}
        rows.append((rule, sizes[0], made))
    claims = [(word, row, some, plain_table(word, rows[row][1], rows[row][2])[some]) for word, row, some in asked]
    return tuple(rows), tuple(claims)


def any_asked(chance, pieces, rules, many):
    found = plain_tale(pieces, rules, [])
    if found[0] in (NoPaper, TooMany):
        return []
    rows = [chance.randrange(len(rules)) for k in range(many)]
    return [(chance.choice(("surely", "may")), row, chance.randrange(2 ** found[0][row][1])) for row in rows]


def any_rules(chance, pieces, many):
    """Rules that can stand there, mostly, with rows that mostly don't grow too long; one that doesn't is the last."""
    rules, ahead = [], []
    for k in range(many):
        rule = any_rule(chance, pieces, ahead)
        if ahead and chance.randint(0, 2) == 0:
            # What is joined to itself grows fast.
            rule = (chance.choice(("both", "either")), len(ahead) - 1, len(ahead) - 1)
        found = plain_tale(pieces, rules + [rule], [])
        if found[0] in (NoPaper, TooMany) and chance.randint(0, 5):
            rule = ("piece", chance.randrange(len(pieces)))
            found = plain_tale(pieces, rules + [rule], [])
        rules.append(rule)
        if found[0] in (NoPaper, TooMany):
            break
        ahead = [(n, belief) for word, n, belief in found[0]]
    return rules


class Judged(Case):
    def judge(self, pieces, rules, asked):
        found = plain_tale(pieces, rules, asked)
        if found[0] in (NoPaper, TooMany):
            self.refuses(found[0], found[1], tale_of, pieces, rules, asked)
            return found[0].__name__
        self.tells(found, tale_of, pieces, rules, asked)
        self.tells(True, lets_tale, pieces, found)
        return "told"

    def refused(self, k, pieces, rules):
        self.refuses(NoPaper, {"word": "rule", "row": k}, tale_of, pieces, rules, [])
        self.assertEqual(self.judge(pieces, rules, []), "NoPaper")


class Told(Judged):
    def test_one_of_each(self):
        pieces, (rows, claims) = one_of_each()
        rules = [rule for rule, n, belief in rows]
        self.tells((rows, claims), tale_of, pieces, rules, [claim[:3] for claim in claims])
        self.tells((rows, ()), tale_of, pieces, rules, [])
        self.assertEqual(sorted(set(rule[0] for rule in rules)), sorted(LENGTHS))

    def test_any_rules(self):
        chance = random.Random(1300)
        seen, words = {}, {}
        for k in range(120):
            pieces = any_pieces(chance, chance.randint(1, 8), 6 if k % 4 == 0 else 3)
            rules = any_rules(chance, pieces, chance.choice((1, 5, 24)))
            found = self.judge(pieces, rules, any_asked(chance, pieces, rules, chance.choice((0, 3, 24))))
            seen[found] = seen.get(found, 0) + 1
            for rule in rules:
                words[rule[0]] = words.get(rule[0], 0) + 1
        self.assertEqual(sorted(seen), ["NoPaper", "TooMany", "told"])
        self.assertGreater(min(seen.values()), 3)
        self.assertEqual(sorted(words), sorted(LENGTHS))

    def test_how_many(self):
        pieces = [(1, ((1, (1, 1)),))] * 8
        for many in (1, 24):
            asked = [("surely", many - 1, 1), ("may", 0, 0)] * 12
            row, claims = (("piece", 7), 1, ((1, (1, 1)),)), (("surely", many - 1, 1, (1, 1)), ("may", 0, 0, (0, 1)))
            self.tells(((row,) * many, claims * 12), tale_of, pieces, [("piece", 7)] * many, asked)

    def test_just_the_fraction(self):
        pieces = [(2, ((0, (1, 8)), (1, HALF), (2, (1, 8)), (3, (1, 4))))]
        asked = [("surely", 0, 1), ("may", 0, 1), ("surely", 0, 3), ("may", 0, 3), ("surely", 0, 0), ("may", 0, 0)]
        told = [(1, 2), (3, 4), (7, 8), (7, 8), (0, 1), (0, 1)]
        wanted = tuple(one + (fraction,) for one, fraction in zip(asked, told))
        self.tells(((("piece", 0), 2, pieces[0][1]),), lambda: tale_of(pieces, [("piece", 0)], asked)[0])
        self.tells(wanted, lambda: tale_of(pieces, [("piece", 0)], asked)[1])


class Refused(Judged):
    def test_any_thing_as_a_rule(self):
        pieces, (rows, claims) = one_of_each()
        rules = [rule for rule, n, belief in rows]
        for thing in ODD_THINGS + (deep(59), long_thing(), "piece", ["piece", 0], ("piece",), ("piece", 0, 0)):
            self.refused(0, pieces, [thing])
            self.refused(9, pieces, rules + [thing, None])
            self.refused(4, pieces, rules[:4] + [thing] + rules)

    def test_spoiled_rules(self):
        pieces, (rows, claims) = one_of_each()
        rules = [rule for rule, n, belief in rows]
        seen = {}
        for number, rule in enumerate(rules):
            for thing in spoiled(rule):
                seen[self.judge(pieces, rules[:number] + [thing], [])] = True
            for k in range(len(rule)):
                for thing in ODD_THINGS + (number, number + 1, -number, 2, 7, "piece", "both", "cleaned"):
                    self.judge(pieces, rules[:number] + [rule[:k] + (thing,) + rule[k + 1:]], [])
        self.assertEqual(sorted(seen), ["NoPaper", "TooMany", "told"])

    def test_numbers(self):
        pieces, (rows, claims) = one_of_each()
        for thing in (2, -1, -2, True, False, None, "0", (0,), 10 ** 599):
            self.refused(0, pieces, [("piece", thing)])
            for word in ("both", "either", "taken"):
                self.refused(2, pieces, [("piece", 0), ("piece", 1), (word, 0, thing)])
                self.refused(2, pieces, [("piece", 0), ("piece", 1), (word, thing, 0)])
            for rule in (("weaker", thing, HALF), ("finer", thing, (1, 2)), ("coarser", thing, (3,)), ("cleaned", thing)):
                self.refused(2, pieces, [("piece", 0), ("piece", 1), rule])
        for rule in (("both", 0, 0), ("weaker", 0, HALF), ("finer", 0, (1, 2)), ("coarser", 0, (3,)), ("cleaned", 0)):
            self.refused(0, pieces, [rule, ("piece", 0)])

    def test_another_n_no_share_no_map(self):
        pieces = [(1, ((1, (1, 1)),)), (2, ((3, (1, 1)),)), (6, ((63, (1, 1)),))]
        rules = [("piece", 0), ("piece", 1), ("piece", 2)]
        for rule in (("both", 0, 1), ("either", 1, 0), ("taken", 0, 1), ("taken", 1, 0), ("weaker", 0, (3, 2)),
                     ("weaker", 0, (-1, 2)), ("weaker", 0, (2, 4)), ("weaker", 0, [1, 2]), ("weaker", 0, 1),
                     ("weaker", 0, (True, 1)), ("finer", 1, (1,)), ("finer", 1, (1, 3)), ("finer", 1, (1, 4)),
                     ("finer", 1, (0, 3)), ("finer", 1, [1, 2]), ("finer", 1, (1, 2, 4)), ("finer", 1, (True, 2)),
                     ("coarser", 1, (1,)), ("coarser", 1, (1, 2, 4)), ("coarser", 1, (3, 0)), ("coarser", 1, (7,)),
                     ("coarser", 1, ()), ("coarser", 1, [3]), ("finer", 2, (1, 2, 4, 8, 16, 96)),
                     ("finer", 0, (127,)), ("finer", 0, ()), ("coarser", 2, (31,))):
            self.refused(3, pieces, rules + [rule])
        for rule, n in ((("finer", 0, (63,)), 6), (("finer", 1, (6, 9)), 4), (("coarser", 2, (63,)), 1),
                        (("coarser", 2, (1, 62)), 2), (("finer", 2, (1, 2, 4, 8, 16, 32)), 6)):
            self.tells(n, lambda: tale_of(pieces, rules + [rule], [])[0][3][1])
            self.assertEqual(self.judge(pieces, rules + [rule], []), "told")

    def test_not_wide_all_clash_no_elder(self):
        pieces = [(2, ((1, (1, 1)),)), (2, ALL_CLASH), (2, ((3, (1, 1)),)), (2, ((1, HALF), (3, HALF)))]
        rules = [("piece", k) for k in range(4)]
        for rule in (("taken", 0, 0), ("taken", 2, 1), ("cleaned", 1), ("taken", 2, 3)):
            self.refused(4, pieces, rules + [rule])
        for rule in (("taken", 0, 3), ("taken", 1, 3), ("taken", 3, 3), ("cleaned", 0)):
            self.assertEqual(self.judge(pieces, rules + [rule], []), "told")

    def test_forty_figures(self):
        silent = [(1, ((1, (1, 1)),)), (1, ALL_CLASH)]
        most, more = 10 ** 40 - 1, 10 ** 40
        for bottom, wanted in ((most, "told"), (more, "TooMany"), (more + 1, "TooMany"), (10 ** 39, "told")):
            for top in (1, bottom - 1):
                share = as_pair(Fraction(top, bottom))
                self.assertEqual(self.judge(silent, [("piece", 1), ("weaker", 0, share)], []), wanted)
        # By each word that can make shares grow, and ahead of what comes behind it.
        half = as_pair(Fraction(1, 10 ** 21 + 1))
        rules = [("piece", 1), ("weaker", 0, half)]
        for word in ("both", "either"):
            self.refuses(TooMany, {}, tale_of, silent, rules + [(word, 1, 1)], [])
            self.refuses(TooMany, {}, tale_of, silent, rules + [(word, 1, 1), None], [])
            self.refused(2, silent, rules + [None, (word, 1, 1)])
        self.refuses(TooMany, {}, tale_of, silent, rules + [("weaker", 1, half)], [])

    def test_a_long_share_of_a_piece(self):
        chance = random.Random(1310)
        bottom = chance.randrange(10 ** 41, 10 ** 42) * 2 + 1
        belief = ((1, (1, bottom)), (3, (bottom - 1, bottom)))
        self.refuses(TooMany, {}, tale_of, [(2, belief)], [("piece", 0), None], [])
        # One share of many figures is enough, wherever it stands, though most are short.
        belief = ((0, (1, 2)), (1, (1, 2 * bottom)), (2, (bottom - 1, 2 * bottom)))
        self.refuses(TooMany, {}, tale_of, [(2, belief)], [("piece", 0)], [])

    def test_taken_and_cleaned_shares_grow(self):
        chance = random.Random(1320)
        seen = {}
        for k in range(12):
            pieces = [(4, sample(chance, 4, many=10, must=[0, 15])) for step in range(5)]
            rules = [("piece", step) for step in range(5)] + [("both", 0, 1), ("both", 5, 2), ("taken", 6, 0)]
            rules += [("cleaned", 6), ("both", 8, 3), ("taken", 9, 3), ("both", 9, 4), ("cleaned", 11)]
            rules += [("weaker", 6, any_share(chance))]
            seen[self.judge(pieces, rules, [])] = True
        self.assertIn("told", seen)


if __name__ == "__main__":
    unittest.main()
