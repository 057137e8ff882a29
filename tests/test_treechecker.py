"""[75] to [79], the tree checker."""

import itertools
import random
import unittest

from beliefsets.errors import BeliefError, NoPaper
from beliefsets.things import everything, narrowed, silent_piece, together, widened
from beliefsets.treechecker import lets_tree
from beliefsets.trees import tree_paper
from samples import ODD_THINGS, Case, alike, as_number, deep, is_plain_number, long_thing, spoiled
from test_spreads import HALF, NOUGHT, ONE, THIRD
from test_things import (any_piece, any_scope, any_things, is_plain_piece, is_plain_scope, plain_narrowed,
                         plain_together, plain_widened)


def come_to(start, edges, allowed):
    """The bunches that are come to from one along edges, by way of allowed ones alone."""
    found, ahead = {start}, None
    while found != ahead:
        ahead = set(found)
        for i, j in edges:
            if i in allowed and j in allowed and (i in found or j in found):
                found |= {i, j}
    return found


def hang_together(some, edges):
    return not some or come_to(some[0], edges, some) == set(some)


def edge_verdict(many, edges):
    """The number of the first wrong edge, or how many there are where some bunch is not come to, else None."""
    for k, edge in enumerate(edges):
        if type(edge) is not tuple or len(edge) != 2 or not all(is_plain_number(one, 0, many) for one in edge):
            return k
        if edge[0] >= edge[1] or (k and edge <= edges[k - 1]):
            return k
        if edge[1] in come_to(edge[0], edges[:k], range(many)):
            return k
    return None if hang_together(list(range(many)), edges) else len(edges)


def home_verdict(pieces, bunches, homes):
    for k in range(max(len(pieces), len(homes))):
        if k >= len(pieces) or k >= len(homes) or not is_plain_number(homes[k], 0, len(bunches)):
            return k
        if not set(pieces[k][0]) <= set(bunches[homes[k]]):
            return k
    return None


def tree_verdict(things, pieces, thing, many):
    """None of a tuple of so many tuples that begins with a right tree, else the word and the number."""
    if type(thing) is not tuple or len(thing) != many or not all(type(one) is tuple for one in thing):
        return ("shape", -1)
    bunches, edges, homes = thing[:3]
    if not 1 <= len(bunches) <= 6:
        return ("shape", -1)
    for k, bunch in enumerate(bunches):
        if not is_plain_scope(things, bunch) or len(bunch) > 3:
            return ("bunch", k)
    wrong = edge_verdict(len(bunches), edges)
    if wrong is not None:
        return ("edge", wrong)
    for number in range(len(things)):
        if not hang_together([k for k, bunch in enumerate(bunches) if number in bunch], edges):
            return ("thing", number)
    wrong = home_verdict(pieces, bunches, homes)
    return None if wrong is None else ("home", wrong)


def tellings(edges):
    """The bunches (from, to) of each message, in order."""
    return [pair for i, j in edges for pair in ((i, j), (j, i))]


def shared(bunches, i, j):
    return tuple(number for number in bunches[i] if number in bunches[j])


def piece_verdict(things, scopes, rows):
    for k in range(max(len(scopes), len(rows))):
        if k >= len(scopes) or k >= len(rows) or not is_plain_piece(things, rows[k]) or rows[k][0] != scopes[k]:
            return k
    return None


def plain_at(things, pieces, paper, bunch, aside):
    """What [76] tells is put together at a bunch, by the messages of the paper."""
    bunches, edges, homes, messages = paper[:4]
    whole = silent_piece(things, bunches[bunch])
    for piece, home in zip(pieces, homes):
        if home == bunch:
            whole = plain_together(things, whole, piece)
    for (i, j), message in zip(tellings(edges), messages):
        if j == bunch and i != aside:
            whole = plain_together(things, whole, message)
    return whole


def plain_verdict(things, pieces, thing):
    """[78] said again: None of a right paper, else the word and the number of the refusal."""
    wrong = tree_verdict(things, pieces, thing, 5)
    if wrong is not None:
        return wrong
    bunches, edges, homes, messages, answers = thing
    ways = tellings(edges)
    wrong = piece_verdict(things, [shared(bunches, i, j) for i, j in ways], messages)
    if wrong is not None:
        return ("piece", wrong)
    wrong = piece_verdict(things, bunches, answers)
    if wrong is not None:
        return ("piece", len(ways) + wrong)
    for k, (i, j) in enumerate(ways):
        if not alike(plain_narrowed(things, plain_at(things, pieces, thing, i, j), shared(bunches, i, j)), messages[k]):
            return ("message", k)
    for k in range(len(bunches)):
        if not alike(plain_at(things, pieces, thing, k, None), answers[k]):
            return ("answer", k)
    return None


def any_tree(chance, things, many):
    """Any tree of so many bunches in which each thing's bunches hang together, numbered in any order."""
    bunches, links = [any_scope(chance, things)], []
    while len(bunches) < many:
        at = chance.randrange(len(bunches))
        seen = {number for bunch in bunches for number in bunch}
        kept = [number for number in bunches[at] if chance.randint(0, 2)]
        fresh = [number for number in range(len(things)) if number not in seen and chance.randint(0, 1)]
        links.append((at, len(bunches)))
        bunches.append(tuple(sorted((kept + fresh)[:3])))
    order = list(range(many))
    chance.shuffle(order)
    edges = sorted(tuple(sorted((order.index(i), order.index(j)))) for i, j in links)
    return tuple(bunches[k] for k in order), tuple(edges)


def any_case(chance, most_things=6, most_bunches=6, most_pieces=6, most_sets=4):
    """Things, pieces and a tree for these, by chance."""
    things = any_things(chance, most=most_things)
    bunches, edges = any_tree(chance, things, chance.randint(1, most_bunches))
    pieces, homes = [], []
    for k in range(chance.randint(0, most_pieces)):
        home = chance.randrange(len(bunches))
        scope = tuple(number for number in bunches[home] if chance.randint(0, 2))
        homes.append(home)
        pieces.append(any_piece(chance, things, scope, most=most_sets))
    return things, pieces, (bunches, edges, tuple(homes))


THINGS = (2, 3, 2, 2)
PIECES = [((0, 1), ((7, HALF), (63, HALF))), ((1, 2), ((0, THIRD), (9, THIRD), (36, THIRD))),
          ((3,), ((1, HALF), (3, HALF)))]
TREE = (((0, 1), (1, 2), (3,)), ((0, 1), (1, 2)), (0, 1, 2))
PAPER = tree_paper(THINGS, PIECES, TREE)


class Lets(Case):
    def verdict(self, wanted, things, pieces, thing):
        if wanted is None:
            self.tells(True, lets_tree, things, pieces, thing)
        else:
            self.refuses(NoPaper, {"word": wanted[0], "row": wanted[1]}, lets_tree, things, pieces, thing)

    def wrong(self, word, row, thing):
        self.assertEqual(plain_verdict(THINGS, PIECES, thing), (word, row))
        self.verdict((word, row), THINGS, PIECES, thing)

    def with_part(self, at, part):
        return PAPER[:at] + (part,) + PAPER[at + 1:]

    def test_right_ones(self):
        self.assertIsNone(plain_verdict(THINGS, PIECES, PAPER))
        self.verdict(None, THINGS, PIECES, PAPER)
        void = ((),)
        self.verdict(None, (2,), [], (void, (), (), (), (((), ((1, ONE),)),)))
        self.verdict(None, (2,), [((), ((0, ONE),))], (void, (), (0,), (), (((), ((0, ONE),)),)))
        self.verdict(None, (2, 3), [], (((1,),), (), (), (), (((1,), ((7, ONE),)),)))

    def test_shape(self):
        for thing in ODD_THINGS + (deep(60), long_thing(), list(PAPER), PAPER[:4], PAPER + ((),), PAPER[1:], "shape"):
            self.wrong("shape", -1, thing)
        for at in range(5):
            for part in (None, 0, True, "", "abc", [], list(PAPER[at])):
                self.wrong("shape", -1, self.with_part(at, part))
        self.wrong("shape", -1, self.with_part(0, ()))
        self.wrong("shape", -1, self.with_part(0, ((),) * 7))
        self.wrong("shape", -1, self.with_part(0, (None,) * 7))

    def test_bunch(self):
        for thing in (None, 0, True, "01", [0, 1], (1, 0), (0, 0), (4,), (-1,), (True,), (False, 1), (0, 1, 2, 3),
                      ((0,),), (0, None), ("0",), deep(57), (10 ** 599,)):
            for k in range(3):
                bunches = TREE[0][:k] + (thing,) + TREE[0][k + 1:]
                self.wrong("bunch", k, self.with_part(0, bunches))
        self.wrong("bunch", 1, self.with_part(0, ((0, 1), (1, 0), None)))
        # A wrong bunch goes ahead of wrong edges, homes, messages, answers.
        self.wrong("bunch", 2, (TREE[0][:2] + ((9,),), (None,), (None,), (None,), (None,)))

    def test_edge(self):
        for thing in (None, 0, True, "01", [0, 1], (0,), (0, 1, 2), (1, 0), (1, 1), (0, 3), (-1, 0), (0, True),
                      (False, 1), (0, None), ("0", "1"), ((0, 1),), (), deep(57), (0, 10 ** 599)):
            self.wrong("edge", 0, self.with_part(1, (thing, (1, 2))))
            self.wrong("edge", 1, self.with_part(1, ((0, 1), thing)))
            self.wrong("edge", 2, self.with_part(1, ((0, 1), (1, 2), thing)))
        self.wrong("edge", 1, self.with_part(1, ((1, 2), (0, 1))))
        self.wrong("edge", 1, self.with_part(1, ((0, 1), (0, 1))))
        self.wrong("edge", 2, self.with_part(1, ((0, 1), (1, 2), (1, 2))))
        # A ring, along edges ahead; too few edges: how many there are.
        self.wrong("edge", 2, self.with_part(1, ((0, 1), (0, 2), (1, 2))))
        self.wrong("edge", 0, self.with_part(1, ()))
        self.wrong("edge", 1, self.with_part(1, ((0, 1),)))
        self.wrong("edge", 1, self.with_part(1, ((1, 2),)))
        self.wrong("edge", 2, self.with_part(1, TREE[1] + ((0, 1),) * 30000))
        self.wrong("edge", 1, (TREE[0], ((0, 1),), (None,), (None,), (None,)))

    def test_rings_and_lonely_bunches(self):
        bunches = ((),) * 6
        for edges, row in (
            (((0, 1), (0, 2), (0, 3), (0, 4), (0, 5)), None), (((0, 1), (1, 2), (2, 3), (3, 4), (4, 5)), None),
            (((0, 5), (1, 5), (2, 5), (3, 5), (4, 5)), None), (((0, 1), (2, 3), (2, 4), (3, 5), (4, 5)), 4),
            (((0, 1), (0, 2), (1, 3), (2, 3), (4, 5)), 3), (((0, 1), (2, 3), (4, 5)), 3),
            (((0, 3), (1, 3), (1, 4), (3, 4)), 3),
            (((0, 1), (1, 2), (2, 3), (3, 4)), 4), (((0, 5), (1, 4), (2, 3), (2, 5), (3, 4)), None),
            (((0, 1), (0, 2), (0, 3), (0, 4), (0, 5), (4, 5)), 5),
        ):
            self.assertEqual(edge_verdict(6, edges), row)
            silent = (((), ((1, ONE),)),)
            paper = (bunches, edges, (), silent * (2 * len(edges)), silent * 6)
            self.verdict(None if row is None else ("edge", row), (2,), [], paper)

    def test_thing(self):
        bunches = ((0, 1), (3,), (1, 2))
        self.wrong("thing", 1, (bunches, ((0, 1), (1, 2)), (0, 2, 1), (), ()))
        self.wrong("thing", 0, (((0, 1), (2, 3), (0, 1)), ((0, 1), (1, 2)), (0, 2, 1), (), ()))
        self.wrong("thing", 2, (((1, 2), (3,), (2, 3)), ((0, 1), (1, 2)), (None,), (None,), (None,)))
        self.wrong("thing", 3, (((3,), (1, 2), (3,)), ((0, 1), (1, 2)), (), (), ()))
        self.wrong("thing", 0, (((0,), (), (0,), (0,)), ((0, 1), (1, 2), (2, 3)), (), (), ()))

    def test_home(self):
        for thing in (None, True, False, -1, 3, "0", (0,), [0], 10 ** 599, deep(57), ()):
            for k in range(3):
                self.wrong("home", k, self.with_part(2, TREE[2][:k] + (thing,) + TREE[2][k + 1:]))
        for homes, row in (((), 0), ((0,), 1), ((0, 1), 2), ((0, 1, 2, 0), 3), ((0, 1, 2, None), 3), ((1, 1, 2), 0),
                           ((2, 1, 2), 0), ((0, 0, 2), 1), ((0, 1, 0), 2), ((0, 1, 2) * 3, 3)):
            self.wrong("home", row, self.with_part(2, homes))
        self.wrong("home", 2, (TREE[0], TREE[1], (0, 1), (None,), (None,)))

    def test_piece(self):
        messages, answers = PAPER[3], PAPER[4]
        for thing in (None, True, 0, "", (), [], ((),), deep(57), ((9,), ((1, ONE),)), ((0, 1, 2), ((1, ONE),)),
                      ((0,), ((0, ONE), (1, ONE)))):
            for k in range(4):
                self.wrong("piece", k, self.with_part(3, messages[:k] + (thing,) + messages[k + 1:]))
            for k in range(3):
                self.wrong("piece", 4 + k, self.with_part(4, answers[:k] + (thing,) + answers[k + 1:]))
        for k in range(4):
            # Nothing, or one more; those of another scope.
            self.wrong("piece", k, self.with_part(3, messages[:k]))
            self.wrong("piece", k, self.with_part(3, messages[:k] + (silent_piece(THINGS, (2, 3)),) + messages[k + 1:]))
        self.wrong("piece", 4, self.with_part(3, messages + messages[:1]))
        self.wrong("piece", 4, self.with_part(3, messages + (None, None)))
        for k in range(3):
            self.wrong("piece", 4 + k, self.with_part(4, answers[:k]))
        self.wrong("piece", 7, self.with_part(4, answers + answers[:1]))
        # Messages first; a wrong message goes behind an answer that is none.
        self.wrong("piece", 1, PAPER[:3] + (messages[:1], ()))
        self.wrong("piece", 4, PAPER[:3] + (messages + messages[:1], ()))
        self.wrong("piece", 5, PAPER[:3] + ((((1,), ((7, ONE),)),) + messages[1:], answers[:1]))
        # A scope with a truth in it is none, though it compares alike.
        self.wrong("piece", 0, self.with_part(3, (((True,), messages[0][1]),) + messages[1:]))
        self.wrong("piece", 4, self.with_part(4, (((0, True), answers[0][1]),) + answers[1:]))

    def test_message_and_answer(self):
        messages, answers = PAPER[3], PAPER[4]
        # By another message 3 message 1, told by it, is another one than by 76, and goes ahead.
        for k, row in ((0, 0), (1, 1), (2, 2), (3, 1)):
            other = (messages[k][0], ((0, (1, 7)), (1, (6, 7))))
            self.wrong("message", row, self.with_part(3, messages[:k] + (other,) + messages[k + 1:]))
        for k in range(3):
            other = any_piece(random.Random(2610 + k), THINGS, answers[k][0])
            self.assertNotEqual(other, answers[k])
            self.wrong("answer", k, self.with_part(4, answers[:k] + (other,) + answers[k + 1:]))
        # A wrong message goes ahead of a wrong answer.
        self.wrong("message", 2, PAPER[:3] + (messages[:2] + (((), ((0, ONE),)),) + messages[3:], answers[:2] + ((
            (3,), ((0, ONE),)),)))

    def test_by_the_messages_that_stand_in_the_paper(self):
        # A message that is wrong, and all that is told by it: that one alone is another one than by 76.
        for k in range(4):
            wrong = (PAPER[3][k][0], ((0, (1, 7)), (1, (6, 7))))
            messages = list(PAPER[3])
            messages[k] = wrong
            for again in range(4):
                for j, (i, to) in enumerate(tellings(TREE[1])):
                    if j != k:
                        whole = plain_at(THINGS, PIECES, TREE + (messages,), i, to)
                        messages[j] = plain_narrowed(THINGS, whole, shared(TREE[0], i, to))
            answers = tuple(plain_at(THINGS, PIECES, TREE + (messages,), j, None) for j in range(3))
            self.wrong("message", k, TREE + (tuple(messages), answers))

    def test_any_thing_in_any_place(self):
        chance = random.Random(2630)
        places = [(at, k) for at in range(5) for k in range(len(PAPER[at]))]
        for thing in ODD_THINGS + (deep(57), long_thing()):
            for at, k in places:
                paper = self.with_part(at, PAPER[at][:k] + (thing,) + PAPER[at][k + 1:])
                self.verdict(plain_verdict(THINGS, PIECES, paper), THINGS, PIECES, paper)
            at = chance.randrange(5)
            paper = self.with_part(at, PAPER[at] + (thing,))
            self.verdict(plain_verdict(THINGS, PIECES, paper), THINGS, PIECES, paper)

    def test_spoiled_papers(self):
        chance = random.Random(2640)
        seen = {}
        for k in range(8):
            things, pieces, tree = any_case(chance, most_things=4, most_bunches=3, most_pieces=2, most_sets=2)
            for thing in spoiled(tree_paper(things, pieces, tree)):
                wanted = plain_verdict(things, pieces, thing)
                seen[wanted and wanted[0]] = True
                self.verdict(wanted, things, pieces, thing)
        self.assertLessEqual({"shape", "bunch", "edge", "home", "piece"}, set(seen))

    def test_parts_of_two_papers(self):
        # Papers put together of parts of others, for other pieces, other trees: right by kind, wrong somewhere.
        chance = random.Random(2650)
        seen = {}
        for k in range(60):
            things, pieces, tree = any_case(chance, most_things=3, most_bunches=4, most_pieces=3, most_sets=3)
            paper = tree_paper(things, pieces, tree)
            others = [any_piece(chance, things, piece[0]) for piece in pieces]
            other = tree_paper(things, others, tree)
            for row in itertools.product((0, 1), repeat=2):
                mixed = tree + (other[3] if row[0] else paper[3], other[4] if row[1] else paper[4])
                wanted = plain_verdict(things, pieces, mixed)
                seen[wanted and wanted[0]] = True
                self.verdict(wanted, things, pieces, mixed)
        self.assertLessEqual({None, "message", "answer"}, set(seen))

    def test_what_is_let_by_is_right(self):
        # [79]: each message tells of the pieces on its side; each answer is everything, narrowed to that bunch.
        chance = random.Random(2660)
        for k in range(40):
            things, pieces, tree = any_case(chance)
            bunches, edges, homes, messages, answers = paper = tree_paper(things, pieces, tree)
            self.verdict(None, things, pieces, paper)
            held = tuple(sorted({number for bunch in bunches for number in bunch}))
            whole = widened(things, everything(things, pieces), held)
            for bunch, answer in zip(bunches, answers):
                self.assertEqual(answer, narrowed(things, whole, bunch))
            self.assertEqual(len({dict(answer[1]).get(0, NOUGHT) for answer in answers}), 1)
            for (i, j), message in zip(tellings(edges), messages):
                side = come_to(i, [edge for edge in edges if edge != tuple(sorted((i, j)))], range(len(bunches)))
                some = everything(things, [piece for piece, home in zip(pieces, homes) if home in side])
                self.assertEqual(message, narrowed(things, widened(things, some, held), shared(bunches, i, j)))

    def test_against_plain_words(self):
        chance = random.Random(2670)
        for k in range(25):
            things, pieces, tree = any_case(chance, most_things=4, most_bunches=4, most_pieces=3, most_sets=3)
            paper = tree_paper(things, pieces, tree)
            self.assertIsNone(plain_verdict(things, pieces, paper), (things, pieces, tree))
            whole = ((), ((1, ONE),))
            for piece in pieces:
                whole = plain_together(things, whole, piece)
            whole = plain_widened(things, whole, tuple(range(len(things))))
            for bunch, answer in zip(paper[0], paper[4]):
                self.assertEqual(plain_narrowed(things, whole, bunch), answer)

    def test_pieces_that_were_told(self):
        chance = random.Random(2680)
        things = (3, 3, 3)
        told = [together(things, any_piece(chance, things, (0, 1, 2)), any_piece(chance, things, (0, 1, 2)))]
        tree = (((0, 1, 2), (0, 2), (2,)), ((0, 1), (1, 2)), (0,))
        paper = tree_paper(things, told, tree)
        self.verdict(None, things, told, paper)
        self.verdict(plain_verdict(things, told, paper), things, told, paper)

    def test_six_bunches_alike(self):
        chance = random.Random(2690)
        things = (3, 3, 3)
        pieces = [any_piece(chance, things, (0, 1, 2)) for k in range(6)]
        for edges in (tuple((k, k + 1) for k in range(5)), tuple((0, k) for k in range(1, 6))):
            paper = tree_paper(things, pieces, (((0, 1, 2),) * 6, edges, tuple(range(6))))
            self.verdict(None, things, pieces, paper)
            self.assertEqual(set(paper[4]), {everything(things, pieces)})

    def test_clash_of_a_far_piece(self):
        things = (2, 2, 2)
        pieces = [((0,), ((1, ONE),)), ((2,), ((0, THIRD), (3, (2, 3))))]
        paper = tree_paper(things, pieces, (((0, 1), (1, 2)), ((0, 1),), (0, 1)))
        self.verdict(None, things, pieces, paper)
        for answer in paper[4]:
            self.assertEqual(as_number(answer[1][0][1]), as_number(THIRD))
            self.assertEqual(answer[1][0][0], 0)

    def test_refusals_are_under_the_base(self):
        with self.assertRaises(BeliefError):
            lets_tree(THINGS, PIECES, None)


if __name__ == "__main__":
    unittest.main()
