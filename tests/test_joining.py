"""[20], [21], [22], beliefs joined."""

import itertools
import random
import unittest
from fractions import Fraction

from beliefsets.beliefs import silent
from beliefsets.errors import AllClash
from beliefsets.joining import both, cleaned, either, joined, laid, patched
from beliefsets.tables import table_of
from samples import Case, as_belief, as_map, as_number, as_pair, sample, samples

WORDS = ("both", "either", "patched", "cleaned", "laid")


def plain_cross(place, one, other):
    found = {}
    for a, x in as_map(one).items():
        for b, y in as_map(other).items():
            found[place(a, b)] = found.get(place(a, b), Fraction(0)) + x * y
    return as_belief(found)


def plain_both(one, other):
    return plain_cross(lambda a, b: a & b, one, other)


def plain_either(one, other):
    return plain_cross(lambda a, b: a | b, one, other)


def plain_patched(one, other):
    return plain_cross(lambda a, b: a & b or a | b, one, other)


def plain_cleaned(belief):
    """The belief cleaned, None where all clashes."""
    found = as_map(belief)
    left = 1 - found.pop(frozenset(), Fraction(0))
    return as_belief({some: share / left for some, share in found.items()}) if found else None


def plain_laid(n, belief):
    found = as_map(belief)
    everything = frozenset(range(n))
    clash = found.pop(frozenset(), Fraction(0))
    found[everything] = found.get(everything, Fraction(0)) + clash
    return as_belief(found)


def plain_step(word, n, one, other):
    if word in ("either", "patched"):
        return {"either": plain_either, "patched": plain_patched}[word](one, other)
    found = plain_both(one, other)
    return {"both": found, "cleaned": plain_cleaned(found), "laid": plain_laid(n, found)}[word]


def plain_joined(word, n, beliefs):
    whole = beliefs[0]
    for belief in beliefs[1:]:
        whole = plain_step(word, n, whole, belief)
        if whole is None:
            return None
    return whole


class Two(Case):
    def test_both_either_patched(self):
        for n in range(1, 7):
            found = samples(500 + n, n, 3)
            for one, other in itertools.product(found, found):
                for function, plain in ((both, plain_both), (either, plain_either), (patched, plain_patched)):
                    self.tells(plain(one, other), function, one, other)
                    self.tells(function(other, one), function, one, other)

    def test_clash_is_kept_by_both_and_filled_by_patched(self):
        none, one, two = ((0, (1, 1)),), ((1, (1, 1)),), ((2, (1, 1)),)
        self.tells(none, both, none, one)
        self.tells(none, both, one, two)
        self.tells(one, either, none, one)
        self.tells(((3, (1, 1)),), either, one, two)
        self.tells(one, patched, none, one)
        self.tells(((3, (1, 1)),), patched, one, two)
        self.tells(none, patched, none, none)

    def test_with_silent(self):
        for n in range(1, 7):
            for belief in samples(520 + n, n, 5):
                self.tells(belief, both, belief, silent(n))
                self.tells(silent(n), either, belief, silent(n))
        twice = both(((1, (1, 2)), (3, (1, 2))), ((1, (1, 2)), (3, (1, 2))))
        self.assertEqual(twice, ((1, (3, 4)), (3, (1, 4))))

    def test_tables_multiply(self):
        for n in range(1, 7):
            found = samples(530 + n, n, 2)
            for one, other in itertools.combinations(found, 2):
                for function, word in ((both, "common"), (either, "held")):
                    wanted = [as_pair(as_number(a) * as_number(b))
                              for a, b in zip(table_of(word, n, one), table_of(word, n, other))]
                    self.assertEqual(list(table_of(word, n, function(one, other))), wanted)


class CleanedAndLaid(Case):
    def test_any_belief(self):
        for n in range(1, 7):
            for belief in samples(540 + n, n, 12):
                wanted = plain_cleaned(belief)
                if wanted is None:
                    self.refuses(AllClash, {}, cleaned, belief)
                else:
                    self.tells(wanted, cleaned, belief)
                self.tells(plain_laid(n, belief), laid, n, belief)

    def test_the_edges(self):
        self.refuses(AllClash, {}, cleaned, ((0, (1, 1)),))
        self.tells(((1, (1, 1)),), cleaned, ((0, (999, 1000)), (1, (1, 1000))))
        self.tells(((3, (1, 1)),), laid, 2, ((0, (1, 1)),))
        self.tells(((1, (1, 2)), (3, (1, 2))), laid, 2, ((0, (1, 2)), (1, (1, 2))))
        self.tells(((7, (1, 1)),), laid, 3, ((0, (1, 2)), (7, (1, 2))))
        self.tells(((1, (1, 2)), (3, (1, 2))), laid, 3, ((1, (1, 2)), (3, (1, 2))))


class Joined(Case):
    def judge(self, word, n, beliefs):
        wanted = plain_joined(word, n, beliefs)
        if wanted is None:
            self.refuses(AllClash, {}, joined, word, n, beliefs)
        else:
            self.tells(wanted, joined, word, n, beliefs)
        return wanted

    def test_one_is_told_as_it_is(self):
        for n in (1, 3, 6):
            for belief in samples(550 + n, n, 4):
                for word in WORDS:
                    self.tells(belief, joined, word, n, [belief])

    def test_lists_by_each_word(self):
        chance = random.Random(560)
        for n in range(1, 7):
            for word in WORDS:
                for many in (2, 2, 3, 4):
                    self.judge(word, n, [sample(chance, n, many=chance.randint(1, 8)) for k in range(many)])
        for word in WORDS:
            self.judge(word, 4, [sample(chance, 4, many=5) for k in range(8)])
            self.judge(word, 6, [sample(chance, 6, many=16) for k in range(8)])

    def test_any_order_and_brackets(self):
        chance = random.Random(570)
        clashes = 0
        for word in ("both", "either", "cleaned"):
            for n in (1, 2, 3, 4):
                for k in range(4):
                    four = [sample(chance, n, many=chance.randint(1, 3)) for step in range(4)]
                    wanted = self.judge(word, n, four)
                    clashes += wanted is None
                    for row in itertools.permutations(four):
                        self.judge_alike(word, n, list(row), wanted)
        self.assertGreater(clashes, 3)

    def judge_alike(self, word, n, four, wanted):
        def brackets():
            left = joined(word, n, [joined(word, n, four[:2]), joined(word, n, four[2:])])
            right = joined(word, n, [four[0], joined(word, n, [four[1], joined(word, n, four[2:])])])
            return (left, right, joined(word, n, four))

        if wanted is not None:
            self.tells((wanted, wanted, wanted), brackets)
            return
        self.refuses(AllClash, {}, joined, word, n, four)
        self.refuses(AllClash, {}, brackets)

    def test_cleaned_is_refused_at_the_step_that_leaves_nothing(self):
        one, two, silence = ((1, (1, 1)),), ((2, (1, 1)),), ((3, (1, 1)),)
        self.refuses(AllClash, {}, joined, "cleaned", 2, [one, two])
        self.refuses(AllClash, {}, joined, "cleaned", 2, [one, two, silence])
        self.refuses(AllClash, {}, joined, "cleaned", 2, [silence, one, silence, two])
        self.refuses(AllClash, {}, joined, "cleaned", 2, [((0, (1, 1)),), silence])
        self.tells(((0, (1, 1)),), joined, "cleaned", 2, [((0, (1, 1)),)])
        self.tells(silence, joined, "laid", 2, [one, two])
        self.tells(one, joined, "laid", 2, [one, two, one])


if __name__ == "__main__":
    unittest.main()
