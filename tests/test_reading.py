"""[17], [18], texts read, and [16] to [18]: what is shown is read back to the same."""

import random
import unittest
from fractions import Fraction

from beliefsets.errors import NoText
from beliefsets.reading import read_belief, read_fraction, read_set
from beliefsets.texts import shown_belief, shown_fraction, shown_set
from samples import Case, as_pair, samples

NAMES = ("sun", "rain", "ra", "a", "s", "snowfall")
NOT_WRITTEN = ("", "1/0", "0/1", "0/0", "2/4", "1/1", "5/1", "01", "00", "-0", "+1", "--1", "-", "/", "1/", "/2", "-/2",
               "1/-2", "-1/-2", "1/02", "01/2", "1/2/3", "1//2", "1.5", "1_0", "x", "1x", "x1", "1e5", "-01", "0/5",
               "(1,2)", "-6/3", "1/+2", "1/2-", "~", "!", "one")
NO_SHARES = ("0", "-1", "-1/2", "3/2", "2", "-5/3")
BARE = "!\"#$&'()*+,-./0123456789:;<=>?@ABCDEFGHIJKLMNOPQRSTUVWXYZ[\\]^_`abcdefghijklmnopqrstuvwxyz{|}~"


class Fractions(Case):
    def wrong(self, word, text):
        self.refuses(NoText, {"row": 0, "word": word}, read_fraction, text)

    def test_shown_and_read_back(self):
        chance = random.Random(400)
        for size in (1, 5, 100, 10 ** 20, 10 ** 100):
            for k in range(40):
                one = as_pair(Fraction(chance.randint(-size, size), chance.randint(1, size)))
                self.tells(one, read_fraction, shown_fraction(one))
        for one in ((0, 1), (1, 1), (-1, 1), (10, 1), (-1, 10), (100, 99)):
            self.tells(one, read_fraction, shown_fraction(one))

    def test_texts_that_write_none(self):
        for text in NOT_WRITTEN:
            self.wrong(0, text)
        for sign in BARE:
            if sign not in "0123456789":
                for text in (sign, sign + "1", "1" + sign, "1/2" + sign):
                    if text != "-1":
                        self.wrong(0, text)

    def test_a_fraction_is_one_word(self):
        for text in (" ", " 1", "  1", " 1/2 ", "x 1", "2/4 1"):
            self.wrong(0, text)
        for text in ("1 ", "1/2  ", "1 2", "-1/2 x", "0 0"):
            self.wrong(1, text)


class Sets(Case):
    def wrong(self, word, text):
        self.refuses(NoText, {"row": 0, "word": word}, read_set, NAMES, text)

    def test_shown_and_read_back(self):
        for n in range(1, 7):
            for some in range(2 ** n):
                self.tells(some, read_set, NAMES[:n], shown_set(NAMES[:n], some))

    def test_words_that_can_not_stand(self):
        for text in ("", " ", " sun", "x", "su", "sunn", "SUN", "sun,rain", "0", "~", "-a", "--"):
            self.wrong(0, text)
        for text in ("sun ", "sun  rain", "sun x", "sun sun", "rain sun", "sun -", "- sun", "- -", "- ", "-  ",
                     "sun - rain"):
            self.wrong(1, text)
        for text in ("sun rain rain", "sun ra rain", "sun rain -", "sun rain ", "sun rain x sun", "rain a ra"):
            self.wrong(2, text)
        self.wrong(6, "sun rain ra a s snowfall snowfall")

    def test_any_sign(self):
        for sign in BARE:
            for text, word in ((sign, 0), ("sun " + sign, 1), ("sun" + sign, 0), ("sun rain" + sign, 1)):
                if text not in NAMES + ("-", "sun a", "sun s"):
                    self.wrong(word, text)


class Beliefs(Case):
    def wrong(self, row, word, lines, names=NAMES):
        self.refuses(NoText, {"row": row, "word": word}, read_belief, names, lines)

    def test_shown_and_read_back_in_any_order(self):
        chance = random.Random(410)
        for n in range(1, 7):
            for belief in samples(420 + n, n, 10):
                lines = shown_belief(NAMES[:n], belief)
                self.tells(belief, read_belief, NAMES[:n], lines)
                chance.shuffle(lines)
                self.tells(belief, read_belief, NAMES[:n], lines)

    def test_long_numbers_on_all_sets(self):
        chance = random.Random(430)
        weights = [chance.randrange(1, 10 ** 98) for some in range(64)]
        belief = tuple((some, as_pair(Fraction(w, sum(weights)))) for some, w in enumerate(weights))
        lines = shown_belief(NAMES, belief)
        chance.shuffle(lines)
        self.tells(belief, read_belief, NAMES, lines)
        self.wrong(64, 0, lines[:-1] + [str(Fraction(1, 10 ** 99)) + " " + lines[-1].partition(" ")[2]])

    def test_first_words(self):
        for word in NOT_WRITTEN + NO_SHARES:
            self.wrong(0, 0, [word + " sun"])
            self.wrong(0, 0, [word])
            self.wrong(1, 0, ["1/2 rain", word + " sun rain", "x"])
        self.wrong(0, 0, [" 1 sun"])
        self.wrong(0, 0, ["sun 1"])

    def test_words_behind(self):
        for line in ("1 x", "1 su", "1 Sun", "1  sun", "1 ", "1 1", "1 x -", "1 -sun", "1"):
            self.wrong(0, 1, [line])
        for line in ("1 sun x", "1 sun sun", "1 rain sun", "1 sun -", "1 - sun", "1 - -", "1 - ", "1 sun ",
                     "1 sun  rain"):
            self.wrong(0, 2, [line])
        for line in ("1 sun rain sun", "1 sun ra rain", "1 sun rain -", "1 rain a  x"):
            self.wrong(0, 3, [line])
        self.wrong(0, 1, ["1 rain"], ("sun",))

    def test_a_line_that_lacks_words(self):
        self.wrong(0, 0, [""])
        self.wrong(0, 1, ["1"])
        self.wrong(1, 1, ["1/2 sun", "1/2"])
        self.wrong(1, 0, ["1/2 sun", "", "x"])

    def test_a_set_that_stood_ahead(self):
        self.wrong(1, 1, ["1/2 sun", "1/2 sun"])
        self.wrong(2, 1, ["1/2 sun rain", "1/4 -", "1/4 sun rain"])
        self.wrong(2, 1, ["1/2 -", "1/4 sun", "1/4 -", "1/4 sun"])
        self.wrong(2, 1, ["1 sun", "1 rain", "1 sun"])

    def test_each_line_is_asked_ahead_of_the_next_one(self):
        self.wrong(1, 1, ["1/2 sun", "1/2 sun", "x"])
        self.wrong(1, 2, ["1/2 sun", "1/2 sun sun", "0 sun"])
        self.wrong(0, 1, ["1/2 x", "y"])
        self.wrong(2, 0, ["1 sun", "1 rain", "x"])

    def test_shares_that_do_not_come_to_one(self):
        self.wrong(0, 0, [])
        self.wrong(1, 0, ["1/2 sun"])
        self.wrong(2, 0, ["1/2 sun", "1/3 rain"])
        self.wrong(2, 0, ["1 sun", "1 rain"])
        self.wrong(3, 0, ["1/2 sun", "1/2 rain", "1/1000 -"])


if __name__ == "__main__":
    unittest.main()
