"""[14], [15], tables: the belief's, and the belief told back by each of them."""

import random
import unittest
from fractions import Fraction

from beliefsets.errors import NoBelief
from beliefsets.tables import belief_by, common, held, may, surely, table_of, turned
from samples import Case, as_belief, as_map, as_number, as_pair, cases, number_of, sample, samples

WORDS = {"surely": surely, "may": may, "common": common, "held": held}


def counted(word, inner, some):
    """The sentence of [3] for each word, over frozensets."""
    if word == "surely":
        return inner <= some and len(inner) > 0
    if word == "may":
        return not inner.isdisjoint(some)
    if word == "common":
        return inner >= some
    return inner <= some


def plain_table(word, n, belief):
    rows = []
    for some in range(2 ** n):
        rows.append(sum([share for inner, share in as_map(belief).items() if counted(word, inner, cases(some))],
                        Fraction(0)))
    return tuple(as_pair(row) for row in rows)


def plain_shares(word, n, table):
    """The shares by a table as [15] tells them, nothing refused: a dict."""
    everything = 2 ** n - 1
    rows = [as_number(one) for one in table]
    if word == "may":
        rows = [rows[everything] - rows[everything - some] for some in range(2 ** n)]
    if word in ("may", "surely"):
        rows[0] = Fraction(0)
    found = {}
    for some in range(2 ** n):
        a = cases(some)
        near = [b for b in range(2 ** n) if (a <= cases(b) if word == "common" else cases(b) <= a)]
        found[a] = sum(rows[b] * (-1) ** (len(a ^ cases(b))) for b in near)
    if word in ("may", "surely"):
        found[frozenset()] = 1 - rows[everything]
    return found


class Told(Case):
    def test_each_word_at_every_set(self):
        for n in range(1, 7):
            for belief in samples(100 + n, n, 4 if n > 4 else 10):
                for word, function in WORDS.items():
                    wanted = plain_table(word, n, belief)
                    self.tells(wanted, table_of, word, n, belief)
                    for some in range(2 ** n):
                        self.tells(wanted[some], function, belief, some)

    def test_none_alone_and_all_alone(self):
        clash, silent = ((0, (1, 1)),), ((3, (1, 1)),)
        nought, one = (0, 1), (1, 1)
        self.tells((nought,) * 4, table_of, "surely", 2, clash)
        self.tells((nought,) * 4, table_of, "may", 2, clash)
        self.tells((one, nought, nought, nought), table_of, "common", 2, clash)
        self.tells((one,) * 4, table_of, "held", 2, clash)
        self.tells((nought, nought, nought, one), table_of, "surely", 2, silent)
        self.tells((nought, one, one, one), table_of, "may", 2, silent)
        self.tells((one,) * 4, table_of, "common", 2, silent)
        self.tells((nought, nought, nought, one), table_of, "held", 2, silent)

    def test_sets_of_many_cases(self):
        belief = ((0, (1, 4)), (1 << 20, (1, 4)), ((1 << 27) - 1, (1, 2)))
        self.tells((1, 4), surely, belief, 1 << 20)
        self.tells((3, 4), may, belief, 1 << 20)
        self.tells((1, 2), common, belief, 3)
        self.tells((1, 2), held, belief, (1 << 20) + 1)


class ToldBack(Case):
    def test_there_and_back_by_each_word(self):
        for n in range(1, 7):
            for belief in samples(200 + n, n, 3 if n > 4 else 8):
                tables = {word: plain_table(word, n, belief) for word in WORDS}
                for word in WORDS:
                    self.tells(belief, belief_by, word, n, tables[word])
                    for other in WORDS:
                        self.tells(tables[other], turned, word, other, n, tables[word])

    def test_long_fractions(self):
        chance = random.Random(210)
        for n in (1, 3, 6):
            weights = [chance.randrange(1, 10 ** 397) for some in range(2 ** n)]
            belief = tuple((some, as_pair(Fraction(w, sum(weights)))) for some, w in enumerate(weights))
            for word in WORDS:
                table = plain_table(word, n, belief)
                self.tells(belief, belief_by, word, n, table)
                self.tells(plain_table("may", n, belief), turned, word, "may", n, table)

    def test_long_fractions_that_are_refused(self):
        chance = random.Random(220)
        for word in WORDS:
            table = [as_pair(Fraction(chance.randrange(10 ** 400), chance.randrange(1, 10 ** 400))) for k in range(64)]
            if word in ("surely", "may"):
                table[0] = (0, 1)
            below = [some for some, share in plain_shares(word, 6, table).items() if share < 0]
            least = min(number_of(some) for some in below)
            self.refuses(NoBelief, {"word": "below", "set": least}, belief_by, word, 6, tuple(table))

    def judge(self, word, n, table):
        """Asks belief_by and turned about any table, and compares with the words of [15]; tells what was due."""
        shares = plain_shares(word, n, table)
        below = [number_of(some) for some in shares if shares[some] < 0]
        fields = None
        if word in ("surely", "may") and table[0] != (0, 1):
            fields = {"word": "none", "set": 0}
        elif below:
            fields = {"word": "below", "set": min(below)}
        elif word in ("common", "held") and sum(shares.values()) != 1:
            fields = {"word": "sum", "set": None}
        if fields is None:
            self.tells(as_belief(shares), belief_by, word, n, table)
            return "belief"
        self.refuses(NoBelief, fields, belief_by, word, n, table)
        for other in WORDS:
            self.refuses(NoBelief, fields, turned, word, other, n, table)
        return fields["word"]

    def test_any_table(self):
        chance = random.Random(230)
        for word in WORDS:
            seen = {}
            for k in range(400):
                n = chance.choice((1, 1, 2, 2, 3))
                table = tuple(as_pair(Fraction(chance.randint(-1, 4), 4)) for some in range(2 ** n))
                if chance.randint(0, 3):
                    table = ((0, 1) if word in ("surely", "may") else table[0],) + table[1:]
                due = self.judge(word, n, table)
                seen[due] = seen.get(due, 0) + 1
            wanted = {"none", "below", "belief"} if word in ("surely", "may") else {"below", "sum", "belief"}
            self.assertEqual(set(seen), wanted)

    def test_tables_that_are_nearly_right(self):
        chance = random.Random(240)
        for n in range(1, 7):
            for word in WORDS:
                for k in range(6):
                    belief = sample(chance, n, many=2 ** n if k % 2 else None)
                    table = list(plain_table(word, n, belief))
                    at = chance.randrange(2 ** n)
                    table[at] = as_pair(as_number(table[at]) + Fraction(chance.choice((-1, 1)), 10 ** 6))
                    self.judge(word, n, tuple(table))

    def test_the_order_of_refusals(self):
        half, nought, one, two = (1, 2), (0, 1), (1, 1), (2, 1)
        self.refuses(NoBelief, {"word": "none", "set": 0}, belief_by, "surely", 1, (half, (-1, 1)))
        self.refuses(NoBelief, {"word": "none", "set": 0}, belief_by, "may", 1, ((-1, 2), two))
        self.refuses(NoBelief, {"word": "below", "set": 0}, belief_by, "surely", 1, (nought, two))
        self.refuses(NoBelief, {"word": "below", "set": 0}, belief_by, "may", 1, (nought, two))
        self.refuses(NoBelief, {"word": "below", "set": 1}, belief_by, "surely", 1, (nought, (-1, 2)))
        self.refuses(NoBelief, {"word": "below", "set": 0}, belief_by, "common", 1, (nought, one))
        self.refuses(NoBelief, {"word": "below", "set": 1}, belief_by, "held", 1, (two, one))
        self.refuses(NoBelief, {"word": "below", "set": 0}, belief_by, "held", 1, ((-1, 2), one))
        self.refuses(NoBelief, {"word": "sum", "set": None}, belief_by, "common", 1, (two, one))
        self.refuses(NoBelief, {"word": "sum", "set": None}, belief_by, "held", 1, (one, two))
        self.tells(((0, (1, 1)),), belief_by, "surely", 1, (nought, nought))


if __name__ == "__main__":
    unittest.main()
