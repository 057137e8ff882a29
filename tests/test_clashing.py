"""[26], [27], clash: papers of it, told and let by."""

import random
import unittest

from beliefsets.clashing import clash_paper, lets_clash
from beliefsets.joining import joined
from samples import ODD_THINGS, Case, alike, cases, deep, is_plain_number, long_thing, sample, spoiled


def cores(pieces):
    return [frozenset().union(*[cases(some) for some, share in piece]) for piece in pieces]


def all_clash(n, some):
    return not frozenset(range(n)).intersection(*some)


def is_plain_tuple(thing, many):
    return type(thing) is tuple and len(thing) == many


def plain_lets(n, pieces, thing):
    """[27] said again, by frozensets."""
    core = cores(pieces)
    if is_plain_tuple(thing, 2) and alike(thing[0], "some"):
        return is_plain_number(thing[1], 0, n) and all(thing[1] in one for one in core)
    if not is_plain_tuple(thing, 4) or not alike(thing[0], "all"):
        return False
    word, numbers, lacking, needed = thing
    if type(numbers) is not tuple or not numbers:
        return False
    if not all(is_plain_number(k, 0, len(pieces)) for k in numbers) or list(numbers) != sorted(set(numbers)):
        return False
    if not is_plain_tuple(lacking, n) or not is_plain_tuple(needed, len(numbers)):
        return False
    if not all(is_plain_number(k, 0, 8) and k in numbers and c not in core[k] for c, k in enumerate(lacking)):
        return False
    return all(is_plain_number(c, 0, n) and all(c in core[other] for other in numbers if other != k)
               for k, c in zip(numbers, needed))


def closed(chance, n, most):
    """A closed piece with a core of at most so many cases."""
    core = sum(2 ** case for case in chance.sample(range(n), min(n, chance.randint(1, most))))
    beyond = [some for some in range(2 ** n) if some & ~core or some == 0]
    return sample(chance, n, many=chance.randint(1, 16), without=beyond)


def pieces_of(chance, n, many):
    return [closed(chance, n, chance.choice((n, n, max(1, n - 1), 2))) for k in range(many)]


ONE, TWO, FOUR = [((some, (1, 1)),) for some in (1, 2, 4)]
HALVES = [((3, (1, 2)), (1, (1, 2)))[::-1], ((6, (1, 1)),), ((5, (1, 1)),)]


class Lets(Case):
    def lets(self, wanted, n, pieces, thing):
        self.tells(wanted, lets_clash, n, pieces, thing)

    def test_some(self):
        pieces = [((3, (1, 2)), (4, (1, 2))), ((5, (1, 1)),)]
        self.lets(True, 3, pieces, ("some", 0))
        self.lets(True, 3, pieces, ("some", 2))
        for thing in (1, 3, -1, True, False, None, "0", (0,), [0], 10 ** 599):
            self.lets(False, 3, pieces, ("some", thing))
        for thing in (["some", 0], ("some",), ("some", 0, 0), ("all", 0), ("", 0), (0, "some"), ("Some", 0)):
            self.lets(False, 3, pieces, thing)
        self.lets(True, 1, [ONE] * 8, ("some", 0))
        self.lets(False, 1, [ONE] * 8, ("some", 1))
        self.lets(False, 2, [TWO] * 8, ("some", True))

    def test_all(self):
        self.lets(True, 3, HALVES, ("all", (0, 1, 2), (1, 2, 0), (2, 0, 1)))
        self.lets(True, 2, [ONE, TWO], ("all", (0, 1), (1, 0), (1, 0)))
        self.lets(True, 2, [ONE, ONE, TWO, ONE], ("all", (1, 2), (2, 1), (1, 0)))
        for wrong in (
            ("all", (1, 0), (1, 0), (0, 1)), ("all", (1, 0), (1, 0), (1, 0)), ("all", (0, 0, 1), (1, 0), (1, 1, 0)),
            ("all", (0, 1, 1), (1, 0), (1, 0, 0)), ("all", (), (), ()), ("all", (), (1, 0), ()),
            ("all", (0,), (0, 0), (0,)), ("all", (0,), (1, 0), (1,)), ("all", (0, 2), (2, 0), (1, 0)),
            ("all", (0, 1), (0, 1), (1, 0)), ("all", (0, 1), (2, 0), (1, 0)), ("all", (0, 1), (1, 0), (0, 1)),
            ("all", (0, 1), (1, 0, 0), (1, 0)), ("all", (0, 1), (1,), (1, 0)), ("all", (0, 1), (1, 0), (1,)),
            ("all", (0, 1), (1, 0), (1, 0, 0)), ("all", (0, 1), (True, 0), (1, 0)), ("all", (0, 1), (1, False), (1, 0)),
            ("all", (0, 1), (1, 0), (True, 0)), ("all", (0, 1), (1, 0), (1, False)), ("all", (False, 1), (1, 0), (1, 0)),
            ("all", (0, True), (1, 0), (1, 0)), ("all", (0, 1), (1, 0), (2, 0)), ("all", (0, 1), (1, 0), (1, -1)),
            ("all", (-1, 1), (1, -1), (1, 0)), ("all", (-2, -1), (-1, -2), (1, 0)), ("all", (0, 1), (-1, -2), (1, 0)),
            ("all", [0, 1], (1, 0), (1, 0)), ("all", (0, 1), [1, 0], (1, 0)), ("all", (0, 1), (1, 0), [1, 0]),
            ["all", (0, 1), (1, 0), (1, 0)], ("some", (0, 1), (1, 0), (1, 0)), ("all", (0, 1), (1, 0)),
            ("all", (0, 1), (1, 0), (1, 0), ()), ("ALL", (0, 1), (1, 0), (1, 0)), "all", ("all",), ("all", 0),
            (True, (0, 1), (1, 0), (1, 0)), ("all", "01", "10", "10"), ("all", None, None, None),
        ):
            self.lets(False, 2, [ONE, TWO], wrong)

    def test_none_can_be_spared(self):
        # All three clash, but by the first two alone: no case is needed of the third one.
        pieces = [((1, (1, 1)),), ((2, (1, 1)),), ((3, (1, 1)),)]
        for case in (0, 1):
            self.lets(False, 2, pieces, ("all", (0, 1, 2), (1, 0), (1, 0, case)))
        self.lets(True, 2, pieces, ("all", (0, 1), (1, 0), (1, 0)))
        self.lets(False, 2, pieces, ("all", (1, 2), (1, 2), (0, 1)))

    def test_one_told_twice(self):
        pieces = [ONE, TWO, ((3, (1, 1)),)]
        self.lets(True, 2, pieces, ("all", (0, 1), (1, 0), (1, 0)))
        self.lets(False, 2, pieces, ("all", (0, 0, 1), (1, 0), (1, 1, 0)))
        self.lets(False, 2, pieces, ("all", (0, 1, 1), (1, 0), (1, 0, 0)))

    def test_any_thing(self):
        for thing in ODD_THINGS + (deep(60), long_thing(), ("all", deep(58), deep(58), deep(58)), ("some", deep(59))):
            self.lets(False, 3, HALVES, thing)
            self.lets(False, 2, [ONE], thing)
        for thing in ODD_THINGS + (deep(40), long_thing()):
            for k in range(3):
                paper = [(0, 1), (1, 0), (1, 0)]
                paper[k] = thing
                # One of these things is just what is due in two of the places.
                self.lets(k > 0 and alike(thing, (1, 0)), 2, [ONE, TWO], ("all", *paper))

    def test_spoiled_papers(self):
        chance = random.Random(810)
        seen = {}
        for n in range(1, 7):
            for many in (1, 2, 3, 5, 8):
                pieces = pieces_of(chance, n, many)
                paper = clash_paper(n, pieces)
                for thing in spoiled(paper):
                    found = plain_lets(n, pieces, thing)
                    seen[paper[0], found] = True
                    self.lets(found, n, pieces, thing)
        self.assertEqual(len(seen), 4)


class Paper(Case):
    def judge(self, n, pieces):
        paper = self.ask(clash_paper, n, pieces)
        self.assertTrue(plain_lets(n, pieces, paper), (n, pieces, paper))
        self.tells(True, lets_clash, n, pieces, paper)
        clash = all_clash(n, cores(pieces))
        self.assertEqual(paper[0], "all" if clash else "some")
        for case in range(n):
            if clash:
                self.tells(False, lets_clash, n, pieces, ("some", case))
        if clash:
            self.judge_numbers(n, pieces, paper[1])
        return paper[0]

    def judge_numbers(self, n, pieces, numbers):
        some = [pieces[k] for k in numbers]
        self.assertEqual(joined("both", n, some), ((0, (1, 1)),))
        self.assertGreaterEqual(len(some), 2)
        for k in range(len(some)):
            rest = joined("both", n, some[:k] + some[k + 1:])
            self.assertNotEqual(rest, ((0, (1, 1)),))

    def test_one_to_eight_pieces(self):
        chance = random.Random(820)
        seen = {}
        for n in range(1, 7):
            for many in range(1, 9):
                for k in range(4):
                    word = self.judge(n, pieces_of(chance, n, many))
                    seen[n, word] = True
        self.assertEqual(sorted(seen)[0], (1, "some"))
        self.assertEqual(len(seen), 11)

    def test_a_case_in_each_core_but_in_no_common_set(self):
        pieces = [((1, (1, 2)), (2, (1, 2))), ((2, (1, 9999)), (4, (9998, 9999)))]
        self.tells(("some", 1), clash_paper, 3, pieces)
        self.assertNotEqual(joined("both", 3, pieces), ((0, (1, 1)),))

    def test_the_least_row(self):
        for n in range(2, 7):
            # Each core lacks one case: all of n are needed, and what stands between is spared.
            lacks = [((2 ** n - 1 - 2 ** k, (1, 1)),) for k in range(n)]
            paper = self.ask(clash_paper, n, lacks + lacks[:1])
            self.assertEqual(len(paper[1]), n)
            self.tells("some", lambda: clash_paper(n, lacks[:-1])[0])
            silent = ((2 ** n - 1, (1, 1)),)
            self.tells(("all", (1, 3), (3,) + (1,) * (n - 1), (1, 0)), clash_paper, n,
                       [silent, ((1, (1, 1)),), silent, ((2 ** n - 2, (1, 1)),)])

    def test_never_both_sorts(self):
        chance = random.Random(830)
        for n in (2, 3, 4):
            for k in range(10):
                pieces = pieces_of(chance, n, 3)
                some = any(lets_clash(n, pieces, ("some", case)) for case in range(n))
                rows = [tuple(k for k in range(3) if row & 2 ** k) for row in range(8)]
                every = any(lets_clash(n, pieces, ("all", row, lacking, needed)) for row in rows
                            for lacking in tuples_of(row, n) for needed in tuples_of(range(n), len(row)))
                self.assertNotEqual(some, every)


def tuples_of(things, many):
    """All tuples of many of some things."""
    found = [()]
    for k in range(many):
        found = [one + (thing,) for one in found for thing in things]
    return found


if __name__ == "__main__":
    unittest.main()
