"""[80], trees told for pieces, and tree papers told."""

import itertools
import random
import unittest

from beliefsets.errors import NoPaper, TooMany
from beliefsets.things import everything, narrowed, together, widened
from beliefsets.treechecker import lets_tree
from beliefsets.trees import tree_for, tree_paper
from samples import ODD_THINGS, Case, alike, deep, long_thing, spoiled
from test_spreads import ONE
from test_things import any_piece, any_scope, any_things, scopes_of
from test_treechecker import PAPER, PIECES, THINGS, TREE, any_case, plain_verdict, tree_verdict


def has_tree(things, scopes):
    """Whether there is a tree, by all orders in which the things could leave."""
    return any(leave_in_order(order, scopes) for order in itertools.permutations(range(len(things))))


def leave_in_order(order, scopes):
    rows = [frozenset(scope) for scope in scopes]
    for number in order:
        near = frozenset().union(*[row for row in rows if number in row]) | {number}
        if len(near) > 3:
            return False
        rows = [row - {number} for row in rows + [near]]
    return True


def silent_pieces(things, scopes):
    found = []
    for scope in scopes:
        many = 1
        for number in scope:
            many *= things[number]
        found.append((scope, ((2 ** many - 1, ONE),)))
    return found


class TreeFor(Case):
    def judge(self, things, pieces):
        wanted = has_tree(things, [scope for scope, shares in pieces])
        if not wanted:
            self.refuses(TooMany, {}, tree_for, things, pieces)
            return False
        tree = self.ask(tree_for, things, pieces)
        self.assertIsNone(tree_verdict(things, pieces, tree, 3), (things, pieces, tree))
        paper = self.ask(tree_paper, things, pieces, tree)
        self.assertTrue(alike(paper[:3], tree))
        self.tells(True, lets_tree, things, pieces, paper)
        return True

    def test_any_pieces(self):
        chance = random.Random(2700)
        seen = {}
        for k in range(150):
            things = any_things(chance)
            pieces = [any_piece(chance, things, any_scope(chance, things, chance.choice((2, 3)))) for j in range(k % 7)]
            seen[self.judge(things, pieces)] = True
        self.assertEqual(len(seen), 2)

    def test_all_scopes_of_four_and_five_things(self):
        # Each with each by pairs, as far as six pieces go.
        for many in (4, 5):
            things = (2,) * many
            pairs = list(itertools.combinations(range(many), 2))
            for row in itertools.combinations(pairs, min(6, len(pairs))):
                for left_out in (0, 1):
                    self.judge(things, silent_pieces(things, row[left_out:]))

    def test_chains_rings_and_stars(self):
        for many in range(1, 7):
            for values in (2, 3):
                things = (values,) * many
                chance = random.Random(2710 + many)
                chain = [any_piece(chance, things, (k, k + 1)) for k in range(many - 1)]
                self.assertTrue(self.judge(things, chain))
                if many > 2:
                    self.assertTrue(self.judge(things, chain + [any_piece(chance, things, (0, many - 1))]))
                star = [any_piece(chance, things, (0, k)) for k in range(1, many)]
                self.assertTrue(self.judge(things, star))
                self.assertTrue(self.judge(things, [any_piece(chance, things, (k,)) for k in range(many)]))

    def test_four_things_each_with_each(self):
        things = (2, 2, 2, 2)
        pairs = silent_pieces(things, itertools.combinations(range(4), 2))
        self.refuses(TooMany, {}, tree_for, things, pairs)
        self.assertTrue(self.judge(things, pairs[1:]))
        threes = silent_pieces(things, itertools.combinations(range(4), 3))
        for many in range(5):
            for some in itertools.combinations(threes, many):
                # Two scopes of three out of four things bring all but one pair together, three of them all.
                self.assertEqual(self.judge(things, list(some)), many < 3)
        self.refuses(TooMany, {}, tree_for, (2,) * 6, silent_pieces((2,) * 6, itertools.combinations((1, 3, 4, 5), 2)))

    def test_two_rings_and_a_wheel(self):
        things = (2,) * 6
        self.assertTrue(self.judge(things, silent_pieces(things, ((0, 1), (1, 2), (0, 2), (3, 4), (4, 5), (3, 5)))))
        self.assertTrue(self.judge(things, silent_pieces(things, ((0, 1, 2), (2, 3, 4), (4, 5), (0, 5)))))
        self.assertTrue(self.judge(things, silent_pieces(things, ((0, 1), (1, 2), (2, 3), (3, 4), (4, 5), (0, 5)))))
        # A hub with a ring around it holds four things each with each by way of others.
        wheel = ((0, 1, 2), (0, 2, 3), (0, 3, 4), (0, 4, 5), (1, 5))
        self.assertFalse(self.judge(things, silent_pieces(things, wheel)))
        self.assertFalse(self.judge(things, silent_pieces(things, ((0, 1, 2), (2, 3, 4), (0, 4, 5), (1, 3, 5)))))

    def test_none_and_void_scopes(self):
        for things in ((2,), (3,), (2, 3), (3,) * 6):
            self.assertTrue(self.judge(things, []))
            for many in (1, 6):
                self.assertTrue(self.judge(things, [((), ((1, ONE),))] * many))
                self.assertTrue(self.judge(things, [((), ((0, ONE),))] * many))
            for scope in scopes_of(things, most=3):
                self.assertTrue(self.judge(things, silent_pieces(things, [scope, ()])))

    def test_a_told_piece_of_more_than_three_things(self):
        chance = random.Random(2720)
        things = (2, 3, 2, 2)
        told = together(things, any_piece(chance, things, (0, 1)), any_piece(chance, things, (2, 3)))
        self.assertEqual(len(told[0]), 4)
        self.refuses(TooMany, {}, tree_for, things, [told])
        self.refuses(TooMany, {}, tree_for, things, [any_piece(chance, things, (0,)), told])
        three = together(things, any_piece(chance, things, (0, 1)), any_piece(chance, things, (1, 3)))
        self.assertTrue(self.judge(things, [three, any_piece(chance, things, (2, 3))]))


class TreePaper(Case):
    def judge(self, things, pieces, tree):
        paper = self.ask(tree_paper, things, pieces, tree)
        self.assertIs(type(paper), tuple)
        self.assertTrue(alike(paper[:3], tree))
        self.tells(True, lets_tree, things, pieces, paper)
        return paper

    def refused(self, wanted, thing, things=THINGS, pieces=PIECES):
        self.refuses(NoPaper, {"word": wanted[0], "row": wanted[1]}, tree_paper, things, pieces, thing)

    def judge_any(self, things, pieces, thing):
        """A paper with just this tree, or refused by the word and the number that are due; that word, or None."""
        wanted = tree_verdict(things, pieces, thing, 3)
        if wanted is None:
            self.judge(things, pieces, thing)
            return None
        self.refused(wanted, thing, things, pieces)
        return wanted[0]

    def test_of_any_right_tree(self):
        chance = random.Random(2730)
        for k in range(60):
            things, pieces, tree = any_case(chance)
            self.assertIsNone(tree_verdict(things, pieces, tree, 3))
            paper = self.judge(things, pieces, tree)
            held = tuple(sorted({number for bunch in tree[0] for number in bunch}))
            whole = widened(things, everything(things, pieces), held)
            self.tells(tuple(narrowed(things, whole, bunch) for bunch in tree[0]), lambda: paper[4])

    def test_small_ones_by_plain_words(self):
        chance = random.Random(2740)
        for k in range(20):
            things, pieces, tree = any_case(chance, most_things=3, most_bunches=4, most_pieces=3, most_sets=3)
            self.assertIsNone(plain_verdict(things, pieces, self.judge(things, pieces, tree)))

    def test_by_hand(self):
        pieces = [((0,), ((1, ONE),)), ((0, 1), ((9, ONE),))]
        tree = (((0,), (0, 1)), ((0, 1),), (0, 1))
        told = (((0,), ((1, ONE),)), ((0,), ((3, ONE),)))
        self.tells(tree + (told, (((0,), ((1, ONE),)), ((0, 1), ((1, ONE),)))), tree_paper, (2, 2), pieces, tree)
        self.tells((((),), (), (), (), (((), ((1, ONE),)),)), tree_paper, (2,), [], (((),), (), ()))

    def test_any_thing_as_a_tree(self):
        for thing in ODD_THINGS + (deep(60), long_thing(), PAPER, list(TREE), TREE[:2], TREE + ((),)):
            self.refused(("shape", -1), thing)
        for at in range(3):
            for thing in ODD_THINGS + (deep(57), long_thing()):
                spoilt = TREE[:at] + (thing,) + TREE[at + 1:]
                self.judge_any(THINGS, PIECES, spoilt)
                for k in range(len(TREE[at])):
                    spoilt = TREE[:at] + (TREE[at][:k] + (thing,) + TREE[at][k + 1:],) + TREE[at + 1:]
                    self.judge_any(THINGS, PIECES, spoilt)

    def test_each_word(self):
        bunches, edges, homes = TREE
        self.refused(("shape", -1), ((), edges, homes))
        self.refused(("shape", -1), (((),) * 7, edges, homes))
        self.refused(("bunch", 1), (((0, 1), (2, 1), (3,)), edges, homes))
        self.refused(("bunch", 0), (((0, 1, 2, 3), (1, 2), (3,)), edges, homes))
        self.refused(("edge", 1), (bunches, ((0, 1), (0, 1)), homes))
        self.refused(("edge", 2), (bunches, ((0, 1), (0, 2), (1, 2)), homes))
        self.refused(("edge", 1), (bunches, ((0, 1),), homes))
        self.refused(("thing", 1), (((0, 1), (3,), (1, 2)), edges, (0, 2, 1)))
        self.refused(("home", 1), (bunches, edges, (0, 0, 2)))
        self.refused(("home", 2), (bunches, edges, (0, 1)))
        self.refused(("home", 3), (bunches, edges, (0, 1, 2, 2)))

    def test_spoiled_trees(self):
        chance = random.Random(2750)
        seen = {}
        for k in range(12):
            things, pieces, tree = any_case(chance, most_things=4, most_bunches=4, most_pieces=3, most_sets=2)
            for thing in spoiled(tree):
                seen[self.judge_any(things, pieces, thing)] = True
        self.assertLessEqual({None, "shape", "bunch", "edge", "home"}, set(seen))


if __name__ == "__main__":
    unittest.main()
