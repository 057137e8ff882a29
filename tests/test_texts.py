"""[16], texts written."""

import random
import unittest

from beliefsets.texts import is_names, shown_belief, shown_fraction, shown_set
from samples import ODD_THINGS, Case, as_map, cases, deep, long_thing, samples

NAMES = ("a", "ab", "abc", "b", "z", "zzzzzzzz")


class Names(Case):
    def test_right_names(self):
        for n in range(1, 7):
            self.tells(True, is_names, NAMES[:n])
            self.tells(True, is_names, NAMES[-n:][::-1])
        for letter in "abcdefghijklmnopqrstuvwxyz":
            self.tells(True, is_names, (letter,))
            self.tells(True, is_names, (letter * 8, letter))

    def test_other_things(self):
        things = ODD_THINGS + (
            deep(60), long_thing(), list(NAMES), "abc", NAMES + ("more",), ("a", "b", "a"), ("a", "a"), ("A",), ("aB",),
            ("a1",), ("1",), ("abcdefghi",), ("",), ("a", ""), ("a b",), (" a",), ("a ",), ("-",), ("a-b",), ("a", 1),
            ("a", None), ("a", True), (["a"],), (("a",),), ("`",), ("{",), ("a_b",), ("a" * 9,), ("a", ["b"]),
            ("ab", "ab"),
        )
        for thing in things:
            self.tells(False, is_names, thing)


class Shown(Case):
    def test_fractions(self):
        long = 10 ** 599 + 1
        for one, text in (((0, 1), "0"), ((1, 1), "1"), ((-1, 1), "-1"), ((1, 2), "1/2"), ((-1, 2), "-1/2"),
                          ((10, 1), "10"), ((-10, 3), "-10/3"), ((3, 100), "3/100"),
                          ((long, 1), str(long)), ((-1, long), "-1/" + str(long))):
            self.tells(text, shown_fraction, one)

    def test_sets(self):
        self.tells("-", shown_set, NAMES, 0)
        for n in range(1, 7):
            names = NAMES[6 - n:][::-1]
            for some in range(1, 2 ** n):
                self.tells(" ".join(names[k] for k in range(n) if k in cases(some)), shown_set, names, some)

    def test_beliefs_in_the_order_of_their_sets(self):
        belief = ((0, (1, 7)), (1, (2, 7)), (6, (4, 7)))
        self.tells(["1/7 -", "2/7 a", "4/7 ab abc"], shown_belief, NAMES, belief)
        self.tells(["1 a"], shown_belief, ("a",), ((1, (1, 1)),))
        self.tells(["1 -"], shown_belief, ("a",), ((0, (1, 1)),))
        for n in range(1, 7):
            for belief in samples(300 + n, n, 6):
                lines = self.ask(shown_belief, NAMES[:n], belief)
                self.assertIs(type(lines), list)
                shares = as_map(belief)
                self.assertEqual([line.split(" ")[0] for line in lines], [str(share) for share in shares.values()])
                sets = [" ".join(NAMES[k] for k in sorted(some)) or "-" for some in shares]
                self.assertEqual([line.partition(" ")[2] for line in lines], sets)

    def test_told_lines_are_the_askers_own(self):
        chance = random.Random(310)
        for belief in samples(311, 3, 4):
            first = shown_belief(NAMES[:3], belief)
            kept = list(first)
            first.insert(chance.randint(0, len(first)), "more")
            self.tells(kept, shown_belief, NAMES[:3], belief)


if __name__ == "__main__":
    unittest.main()
