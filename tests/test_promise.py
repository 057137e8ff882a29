"""[1] to [4] over the whole program: the interface, the kinds, and the sentences of the promise."""

import importlib
import inspect
import itertools
import random
import unittest
from fractions import Fraction

from beliefsets import errors
from beliefsets.beating import beaten_paper, lets_beaten
from beliefsets.bets import even_levels, gain_by, gain_paper, lets_gain
from beliefsets.beliefs import is_belief, is_wide
from beliefsets.clashing import clash_paper, lets_clash
from beliefsets.desk import Desk
from beliefsets.ends import end_layings, laying_at
from beliefsets.finer import coarser, finer, is_map
from beliefsets.fractions import is_fraction, is_share
from beliefsets.joining import both, joined
from beliefsets.keeper import Keeper
from beliefsets.keeping import kept_paper
from beliefsets.keptchecker import lets_kept
from beliefsets.moves import is_moves, lets_moved, moved_by
from beliefsets.moving import moved_paper
from beliefsets.partings import parting
from beliefsets.sets import is_set
from beliefsets.spreads import is_laying, is_levels, level_at, levels_of
from beliefsets.tables import belief_by, may, surely, table_of
from beliefsets.taking import taken, twins
from beliefsets.talechecker import lets_tale
from beliefsets.tales import tale_of
from beliefsets.texts import is_names
from beliefsets.things import everything, is_piece, is_scope, is_things, narrowed, widened
from beliefsets.treechecker import lets_tree
from beliefsets.trees import tree_for, tree_paper
from beliefsets.weights import least
from samples import Case, as_number, as_pair, sample, samples
from test_bets import any_gains
from test_clashing import pieces_of
from test_finer import any_map
from test_moves import any_belief
from test_spreads import HALF, NOUGHT, ONE, any_laying, any_levels, closed
from test_tales import any_rules
from test_talechecker import any_pieces
from test_things import any_piece, any_things
from test_weights import wide

FUNCTIONS = {
    "fractions": "is_fraction 1 is_share 1 fraction 2 plus 2 minus 2 times 2 over 2 total 1 is_less 2",
    "sets": "is_set 2 cases_in 1 size_of 1 sets_within 1 set_of 1 is_within 2",
    "beliefs": "is_belief 2 belief_of 2 share_of 2 is_closed 1 is_wide 2 core_of 1 silent 1",
    "tables": "surely 2 may 2 common 2 held 2 table_of 3 belief_by 3 turned 4",
    "texts": "is_names 1 shown_fraction 1 shown_set 2 shown_belief 2",
    "reading": "read_fraction 1 read_set 2 read_belief 2",
    "joining": "both 2 either 2 patched 2 cleaned 1 laid 2 joined 3",
    "partings": "parting 5", "taking": "taken 3 twins 1", "clashing": "lets_clash 3 clash_paper 2",
    "weaker": "weaker 3 simple 3", "weights": "weights 2 by_weights 2 least 3",
    "finer": "is_map 3 image 2 shadow 2 finer 2 coarser 2", "talechecker": "lets_tale 2", "tales": "tale_of 3",
    "spreads": "is_levels 2 is_laying 3 level_at 2 levels_of 2", "keptchecker": "lets_kept 4",
    "keeping": "kept_paper 3",
    "ends": "end_layings 3 laying_at 4", "bets": "gain_by 2 even_levels 2 lets_gain 5 gain_paper 4",
    "beating": "lets_beaten 5 beaten_paper 4 unbeaten 3", "moves": "is_moves 3 lets_moved 4 moved_by 2",
    "moving": "moved_paper 3 joined_moves 2 pointed 1",
    "things": "is_things 1 is_scope 2 is_piece 2 rows_of 2 silent_piece 2 widened 3 narrowed 3 together 3 everything 2",
    "treechecker": "lets_tree 3", "trees": "tree_for 2 tree_paper 3",
}
METHODS = {Keeper: "put 1 gone 1 weaker 2 pieces 0 whole 0 surely 1 may 1 clash 0 least_clash 0", Desk: "say 1"}


def told(row):
    """Names with how many arguments each takes."""
    words = row.split()
    return {name: int(many) for name, many in zip(words[::2], words[1::2])}


def swapped(thing):
    """A thing with one 1 in it made True, one 0 False, or one tuple a list, in each place."""
    if isinstance(thing, tuple):
        yield list(thing)
        for k, inner in enumerate(thing):
            for one in swapped(inner):
                yield thing[:k] + (one,) + thing[k + 1:]
    elif type(thing) is int and thing in (0, 1):
        yield bool(thing)


class Interface(unittest.TestCase):
    def test_functions(self):
        for module, row in FUNCTIONS.items():
            found = importlib.import_module(f"beliefsets.{module}")
            for name, many in told(row).items():
                function = getattr(found, name)
                self.assertEqual(function.__module__, f"beliefsets.{module}")
                self.assertEqual(len(inspect.signature(function).parameters), many, name)

    def test_classes(self):
        for kind, row in METHODS.items():
            self.assertEqual(len(inspect.signature(kind).parameters), 1)
            for name, many in told(row).items():
                self.assertIn(name, vars(kind))
                self.assertEqual(len(inspect.signature(vars(kind)[name]).parameters), many + 1, name)

    def test_errors(self):
        fields = {"NoFraction": "", "NoBelief": "word set", "AllClash": "", "NoElder": "word set",
                  "NoPaper": "word row", "NoText": "row word", "TooMany": "", "NoPiece": "number", "NoLine": "line"}
        for name, row in fields.items():
            kind = getattr(errors, name)
            self.assertEqual(kind.__bases__, (errors.BeliefError,))
            made = [object() for field in row.split()]
            error = kind(*made)
            for field, one in zip(row.split(), made):
                self.assertIs(getattr(error, field), one)
        self.assertEqual(errors.BeliefError.__bases__, (ValueError,))


class TruthsAndLists(Case):
    """True is no 1, False no 0, a list no tuple: in no place of anything that is looked at."""

    def sees(self, function, *told):
        *ahead, thing = told
        self.assertIs(self.ask(function, *ahead, thing), True)
        many = 0
        for other in swapped(thing):
            many += 1
            try:
                self.assertIs(self.ask(function, *ahead, other), False, (function.__name__, other))
            except errors.NoPaper:
                pass
        self.assertTrue(many or not isinstance(thing, tuple))

    def test_kinds(self):
        self.sees(is_fraction, (0, 1))
        self.sees(is_share, (1, 1))
        self.sees(is_belief, 2, ((0, HALF), (1, HALF)))
        self.sees(is_map, 2, 3, (1, 6))
        self.sees(is_names, ("a", "b"))
        self.sees(is_levels, 2, (ONE, NOUGHT))
        self.sees(is_laying, 2, ((1, HALF), (3, HALF)), ((HALF, NOUGHT), (NOUGHT, HALF)))
        self.sees(is_moves, 1, ((0, HALF), (1, HALF)), ((0, 0, HALF), (1, 0, HALF)))
        self.sees(is_things, (2, 3))
        self.sees(is_scope, (2, 3), (0, 1))
        self.sees(is_piece, (2, 3), ((0, 1), ((0, HALF), (1, HALF))))
        for truth in (True, False):
            self.assertIs(is_set(3, truth), False)

    def test_papers(self):
        for n, pieces in ((2, [((1, ONE),), ((2, ONE),)]), (2, [((3, ONE),)])):
            self.sees(lets_clash, n, pieces, clash_paper(n, pieces))
        belief = ((1, HALF), (3, HALF))
        for levels in ((ONE, NOUGHT), (NOUGHT, ONE)):
            self.sees(lets_kept, 2, belief, levels, kept_paper(2, belief, levels))
        for word in ("least", "most"):
            self.sees(lets_gain, 2, belief, (1, 0), word, gain_paper(2, belief, (1, 0), word))
        for one, other in (((0, 0), (1, 1)), ((1, 1), (0, 0))):
            self.sees(lets_beaten, 2, belief, one, other, beaten_paper(2, belief, one, other))
        for one in (((0, ONE),), ((1, ONE),), ((2, ONE),), ((0, HALF), (3, HALF))):
            self.sees(lets_moved, 2, one, belief, moved_paper(2, one, belief))

    def test_tales_and_tree_papers(self):
        pieces = [(1, ((0, HALF), (1, HALF))), (1, ((1, ONE),))]
        rules = [("piece", 0), ("piece", 1), ("both", 0, 1), ("either", 1, 0), ("weaker", 0, NOUGHT),
                 ("finer", 1, (1,)), ("coarser", 0, (1,)), ("taken", 0, 1), ("cleaned", 0)]
        asked = [(word, row, some) for word in ("surely", "may") for row in (0, 1) for some in (0, 1)]
        self.sees(lets_tale, pieces, tale_of(pieces, rules, asked))
        pieces = [((0,), ((0, HALF), (1, HALF))), ((0, 1), ((1, ONE),)), ((), ((0, HALF), (1, HALF)))]
        tree = (((0,), (0, 1), ()), ((0, 1), (0, 2)), (0, 1, 2))
        self.sees(lets_tree, (2, 2), pieces, tree_paper((2, 2), pieces, tree))


class Promise(Case):
    """The sentences of [4], one by one."""

    def test_each_of_the_four_tables_tells_the_belief_back(self):
        for n in range(1, 7):
            for belief in samples(2800 + n, n, 2):
                for word in ("surely", "may", "common", "held"):
                    self.tells(belief, belief_by, word, n, table_of(word, n, belief))

    def test_any_order_and_any_brackets(self):
        chance = random.Random(2810)
        for n in range(1, 5):
            ones = [sample(chance, n, many=3, must=[2 ** n - 1], most=99) for k in range(3)]
            for word in ("both", "either", "cleaned"):
                wanted = joined(word, n, ones)
                for a, b, c in itertools.permutations(ones):
                    self.tells(wanted, joined, word, n, [a, b, c])
                    self.tells(wanted, joined, word, n, [a, joined(word, n, [b, c])])
        for n in (1, 2, 3):
            ones = [wide(chance, n, many=3) for k in range(3)]
            wanted = least(n, least(n, ones[0], ones[1]), ones[2])
            for a, b, c in itertools.permutations(ones):
                self.tells(wanted, least, n, least(n, a, b), c)
                self.tells(wanted, least, n, a, least(n, b, c))

    def test_of_the_other_ways_three_that_part(self):
        for word in ("patched", "laid"):
            found = parting(word, 2, ((1, ONE),), ((2, ONE),), ((2, ONE),))
            left, right, some = found
            self.assertEqual(left, joined(word, 2, [joined(word, 2, [((1, ONE),), ((2, ONE),)]), ((2, ONE),)]))
            self.assertNotEqual(dict(left).get(some), dict(right).get(some))
        for word in ("both", "either"):
            self.tells(None, parting, word, 2, ((1, ONE),), ((2, ONE),), ((2, ONE),))

    def test_taken_back_or_two_unlike_elders(self):
        chance = random.Random(2820)
        for n in range(1, 7):
            for belief in samples(2830 + n, n, 2):
                piece = sample(chance, n, many=4, must=[2 ** n - 1], most=99)
                self.tells(belief, taken, n, both(belief, piece), piece)
                blind = sample(chance, n, many=4, without=[2 ** n - 1])
                self.assertFalse(is_wide(n, blind))
                self.refuses(errors.NoElder, {"word": "blind", "set": 2 ** n - 1}, taken, n, both(belief, blind), blind)
                even, odd = twins(n)
                self.assertNotEqual(even, odd)
                self.assertEqual(both(even, blind), both(odd, blind))

    def test_whether_all_clash_by_a_least_set(self):
        chance = random.Random(2840)
        for n in range(1, 7):
            for k in range(10):
                pieces = pieces_of(chance, n, chance.randint(1, 8))
                paper = clash_paper(n, pieces)
                self.tells(True, lets_clash, n, pieces, paper)
                self.assertEqual(joined("both", n, pieces) == ((0, ONE),), paper[0] == "all")

    def test_levels_between_surely_and_may(self):
        chance = random.Random(2850)
        for n in range(1, 6):
            for k in range(4):
                belief = closed(chance, n)
                for laying in [any_laying(chance, n, belief) for j in range(3)]:
                    levels = levels_of(n, laying)
                    for some in range(2 ** n):
                        level = as_number(level_at(levels, some))
                        self.assertTrue(as_number(surely(belief, some)) <= level <= as_number(may(belief, some)))
                for some in range(2 ** n):
                    low, high = surely(belief, some), may(belief, some)
                    reached = [level_at(levels_of(n, laying), some) for laying in end_layings(n, belief, some)]
                    self.assertEqual(reached, [low, high])
                    middle = as_pair((as_number(low) + as_number(high)) / 2)
                    laying = laying_at(n, belief, some, middle)
                    self.assertEqual(level_at(levels_of(n, laying), some), middle)
                    self.assertIsNone(laying_at(n, belief, some, as_pair(as_number(low) - Fraction(1, 9999))))

    def test_by_no_such_levels_less_or_more_is_gained(self):
        chance = random.Random(2860)
        for n in range(1, 7):
            for k in range(6):
                belief, gains = closed(chance, n), any_gains(chance, n)
                ends = [gain_paper(n, belief, gains, word) for word in ("least", "most")]
                low, high = [as_number(gain) for gain, laying in ends]
                for gain, laying in ends:
                    self.assertEqual(gain_by(levels_of(n, laying), gains), gain)
                rows = [levels_of(n, any_laying(chance, n, belief)) for j in range(4)] + [even_levels(n, belief)]
                for levels in rows:
                    self.assertTrue(low <= as_number(gain_by(levels, gains)) <= high)

    def test_one_comes_of_another_by_moves_or_it_is_shown_that_it_does_not(self):
        chance = random.Random(2870)
        for n in range(1, 7):
            for k in range(10):
                one, other = any_belief(chance, n, many=4), any_belief(chance, n, many=4)
                for first, second in ((one, other), (both(one, other), other), (one, one)):
                    paper = moved_paper(n, first, second)
                    self.tells(True, lets_moved, n, first, second, paper)
                    if paper[0] == "moves":
                        self.tells(first, moved_by, second, paper[1])

    def test_finer_and_coarser_again_is_nothing(self):
        chance = random.Random(2880)
        for n in range(1, 7):
            for m in range(n, 7):
                for belief in samples(2890 + n, n, 1):
                    cells = any_map(chance, n, m)
                    self.tells(belief, coarser, cells, finer(cells, belief))

    def test_along_a_tree_each_answer_is_that_of_everything(self):
        chance = random.Random(2900)
        for k in range(25):
            things = any_things(chance)
            pieces = [any_piece(chance, things) for j in range(chance.randint(0, 6))]
            try:
                tree = tree_for(things, pieces)
            except errors.TooMany:
                continue
            whole = widened(things, everything(things, pieces), tuple(range(len(things))))
            paper = tree_paper(things, pieces, tree)
            self.tells(True, lets_tree, things, pieces, paper)
            for bunch, answer in zip(paper[0], paper[4]):
                self.tells(answer, narrowed, things, whole, bunch)

    def test_tales_that_are_told_are_let_by(self):
        chance = random.Random(2910)
        for k in range(20):
            pieces = any_pieces(chance, chance.randint(1, 3), 3)
            rules = any_rules(chance, pieces, 6)
            try:
                tale = tale_of(pieces, rules, [])
            except (errors.NoPaper, errors.TooMany):
                continue
            self.tells(True, lets_tale, pieces, tale)

    def test_of_two_contrary_papers_never_both(self):
        chance = random.Random(2920)
        for n in (1, 2, 3):
            for k in range(15):
                belief, levels = closed(chance, n), any_levels(chance, n)
                laying = any_laying(chance, n, belief)
                kept = lets_kept(n, belief, levels_of(n, laying), ("laying", laying))
                lacks = [lets_kept(n, belief, levels_of(n, laying), ("lacks", some)) for some in range(2 ** n)]
                self.assertEqual((kept, any(lacks)), (True, False))
                lacks = [lets_kept(n, belief, levels, ("lacks", some)) for some in range(2 ** n)]
                self.assertEqual(any(lacks), kept_paper(n, belief, levels)[0] == "lacks")
                one, other = any_gains(chance, n), any_gains(chance, n)
                gain, rows = gain_paper(n, belief, tuple(b - a for a, b in zip(one, other)), "least")
                self.assertNotEqual(lets_beaten(n, belief, one, other, ("beaten", gain, rows)),
                                    lets_beaten(n, belief, one, other, ("not", rows)))

    def test_what_was_asked_before_changes_nothing(self):
        belief, gains = ((1, HALF), (3, HALF)), (3, -2)
        first = (gain_paper(2, belief, gains, "least"), moved_paper(2, belief, ((3, ONE),)))
        for k in range(3):
            gain_paper(2, ((3, ONE),), (9, 9), "most")
            moved_paper(2, ((0, ONE),), belief)
            again = (gain_paper(2, belief, gains, "least"), moved_paper(2, belief, ((3, ONE),)))
            self.assertEqual(first, again)


if __name__ == "__main__":
    unittest.main()
