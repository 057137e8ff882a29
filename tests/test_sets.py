"""[11], sets, and what is told being the asker's own ([2])."""

import random
import unittest

from beliefsets.sets import cases_in, is_set, is_within, set_of, sets_within, size_of
from samples import ODD_THINGS, Case, cases, deep, number_of


def some_sets():
    chance = random.Random(11)
    return list(range(64)) + [2 ** 26, 2 ** 27 - 1] + [chance.randrange(2 ** 27) for k in range(40)]


class Sets(Case):
    def test_is_set_at_the_edges(self):
        for n in range(1, 7):
            for thing in range(2 ** n):
                self.tells(True, is_set, n, thing)
            for thing in (-1, 2 ** n, 2 ** n + 1, -(2 ** n), 10 ** 599, -(10 ** 599)):
                self.tells(False, is_set, n, thing)

    def test_other_things_are_no_sets(self):
        for n in range(1, 7):
            for thing in ODD_THINGS + (deep(60), "0", [0], (0,), [1]):
                self.tells(False, is_set, n, thing)

    def test_cases_and_size(self):
        for some in some_sets():
            self.tells(sorted(cases(some)), cases_in, some)
            self.tells(len(cases(some)), size_of, some)
        self.tells([], cases_in, 0)
        self.tells([0, 26], cases_in, 2 ** 26 + 1)

    def test_sets_within(self):
        for some in range(64):
            self.tells([inner for inner in range(some + 1) if cases(inner) <= cases(some)], sets_within, some)
        chance = random.Random(12)
        for many in range(11):
            some = number_of(chance.sample(range(26), max(0, many - 1)) + [26] * min(many, 1))
            found = self.ask(sets_within, some)
            self.assertEqual(len(found), 2 ** many)
            self.assertTrue(all(a < b for a, b in zip(found, found[1:])))
            self.assertTrue(all(cases(inner) <= cases(some) for inner in found))

    def test_set_of_cases_in_any_order(self):
        chance = random.Random(13)
        self.tells(0, set_of, [])
        for some in some_sets():
            told = list(cases(some)) * 2 + chance.choices(list(cases(some)), k=3) if some else []
            chance.shuffle(told)
            self.tells(some, set_of, told)

    def test_is_within(self):
        for one in range(32):
            for other in range(32):
                self.tells(cases(one) <= cases(other), is_within, one, other)
        self.tells(True, is_within, 2 ** 26, 2 ** 27 - 1)
        self.tells(False, is_within, 2 ** 27 - 1, 2 ** 26)

    def test_a_told_list_is_the_askers_own(self):
        for function in (cases_in, sets_within):
            for some in (0, 5, 63):
                first = function(some)
                kept = list(first)
                first.append("more")
                first.reverse()
                self.tells(kept, function, some)


if __name__ == "__main__":
    unittest.main()
