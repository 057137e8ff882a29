"""[23], where brackets part."""

import random
import unittest

from beliefsets.errors import AllClash
from beliefsets.partings import parting
from samples import Case, as_map, cases, sample
from test_joining import WORDS, plain_step


def plain_parting(word, n, one, two, three):
    """What is due: None, a tuple, or "clash"."""
    first, last = plain_step(word, n, one, two), plain_step(word, n, two, three)
    left = first and plain_step(word, n, first, three)
    right = last and plain_step(word, n, one, last)
    if left is None or right is None:
        return "clash"
    unlike = [some for some in range(2 ** n) if as_map(left).get(cases(some)) != as_map(right).get(cases(some))]
    return (left, right, min(unlike)) if unlike else None


class Partings(Case):
    def judge(self, word, n, three):
        wanted = plain_parting(word, n, *three)
        if wanted == "clash":
            self.refuses(AllClash, {}, parting, word, n, *three)
        else:
            self.tells(wanted, parting, word, n, *three)
        return wanted

    def test_by_each_word(self):
        chance = random.Random(600)
        for word in WORDS:
            seen = {}
            for n in range(1, 7):
                for k in range(14):
                    three = [sample(chance, n, many=chance.randint(1, 4)) for step in range(3)]
                    due = self.judge(word, n, three)
                    seen[type(due).__name__] = seen.get(type(due).__name__, 0) + 1
            wanted = {"patched": {"NoneType", "tuple"}, "laid": {"NoneType", "tuple"}, "cleaned": {"NoneType", "str"}}
            self.assertEqual(set(seen), wanted.get(word, {"NoneType"}))

    def test_a_parting_of_three(self):
        one, two, three = ((1, (1, 1)),), ((2, (1, 1)),), ((2, (1, 1)),)
        self.tells((two, ((3, (1, 1)),), 2), parting, "patched", 2, one, two, three)
        self.tells((two, ((3, (1, 1)),), 2), parting, "laid", 2, one, two, three)
        self.refuses(AllClash, {}, parting, "cleaned", 2, one, two, three)
        self.tells(None, parting, "both", 2, one, two, three)
        self.tells(None, parting, "either", 2, one, two, three)

    def test_beliefs_with_clash(self):
        none, one = ((0, (1, 1)),), ((1, (1, 1)),)
        self.tells(None, parting, "both", 1, none, one, one)
        self.tells(None, parting, "patched", 1, none, one, none)
        self.refuses(AllClash, {}, parting, "cleaned", 1, one, one, none)
        self.refuses(AllClash, {}, parting, "cleaned", 1, none, one, one)


if __name__ == "__main__":
    unittest.main()
