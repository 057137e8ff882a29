"""[90] to [93], a desk."""

import random
import unittest

from beliefsets.clashing import lets_clash
from beliefsets.desk import Desk
from beliefsets.errors import NoLine, NoPiece, NoText, TooMany
from beliefsets.texts import shown_belief, shown_fraction, shown_set
from samples import Case
from test_keeper import plain_whole, short_share
from test_spreads import NOUGHT, closed
from test_tables import plain_table
from test_weaker import plain_weaker

NAMES = ("sun", "rain", "snow")
NO_LINES = (
    "", " ", "  ", "put", "gone", "weaker", "surely", "may", "Whole", "whole ", " whole", "wholes", "whole whole",
    "whole -", "clash ", " clash", "clash 0", "clash sun", "least ", "least 0", " least", "least  ", "hole", "x", "-",
    "gone ", "gone  ", " gone 0", "gone 0 ", "gone  0", "gone 00", "gone 01", "gone -1", "gone +1", "gone -0",
    "gone 0.",
    "gone 0 0", "gone 1234567", "gone 0000001", "gone a", "gone 1/2", "gone 0,1", "gone sun", "gone0", "GONE 0",
    "weaker 0", "weaker 0 ", "weaker  0 1/2", "weaker 0  1/2", "weaker 0 1/2 ", " weaker 0 1/2", "weaker 0 1/2 0",
    "weaker 0 3/2", "weaker 0 2/4", "weaker 0 -1/2", "weaker 0 1/0", "weaker 0 0/1", "weaker 0 1/1", "weaker 0 01/2",
    "weaker 0 1/02", "weaker 0 -0", "weaker 0 0/2", "weaker 0 2", "weaker 0 1/", "weaker 0 /2", "weaker 0 .5",
    "weaker 0 1/2/3", "weaker 0 +1/2", "weaker 0 1/-2", "weaker 0 sun", "weaker 1/2 0 ", "weaker 1/2 0",
    "weaker 00 1/2",
    "weaker -1 1/2", "weaker 1234567 1/2", "weaker 1/2", "weaker a 1/2", "weaker", "weaker ", "weaker 0 1/2; 1/2",
    "Put 1 sun", " put 1 sun", "puts 1 sun", "put; 1 sun", "put1 sun", "surelysun", "Surely sun", " surely sun",
    "maysun",
    " may sun", "MAY sun", "may;sun", "1 sun", "sun", "say whole", "0", "1/2 sun; 1/2 rain", "whole;", "; whole",
    "None", "~", "'whole'", "(put)", "get 0", "pieces", "gone_0",
)


class AtADesk(Case):
    def setUp(self):
        self.desk = Desk(NAMES)

    def says(self, wanted, row):
        self.tells(wanted, self.desk.say, row)

    def no_line(self, row):
        self.refuses(NoLine, {"line": row}, self.desk.say, row)

    def no_text(self, row, word, told):
        self.refuses(NoText, {"row": row, "word": word}, self.desk.say, told)


class Rows(AtADesk):
    def test_a_day_at_the_desk(self):
        self.says("1 sun rain snow", "whole")
        self.says("0", "clash")
        self.says("0", "put 1/2 sun; 1/2 sun rain snow")
        self.says("1", "put 1/3 rain snow; 2/3 sun rain snow")
        self.says("1/6 -; 1/3 sun; 1/6 rain snow; 1/3 sun rain snow", "whole")
        self.says("1/3", "surely sun")
        self.says("2/3", "may sun")
        self.says("1/6", "surely rain snow")
        self.says("5/6", "surely sun rain snow")
        self.says("0", "surely -")
        self.says("0", "may -")
        self.says("1/6", "clash")
        self.says("ok", "weaker 0 1/2")
        self.says("1/12 -; 1/6 sun; 1/4 rain snow; 1/2 sun rain snow", "whole")
        self.says("ok", "gone 1")
        self.says("1/4 sun; 3/4 sun rain snow", "whole")
        self.refuses(NoPiece, {"number": 1}, self.desk.say, "gone 1")
        self.says("2", "put 1 snow")
        self.says("ok", "gone 0")
        self.says("ok", "gone 2")
        self.says("1 sun rain snow", "whole")

    def test_lines_in_any_order(self):
        self.says("0", "put 1/2 snow; 1/4 sun; 1/4 rain")
        self.says("1/4 sun; 1/4 rain; 1/2 snow", "whole")

    def test_weaker_by_the_ends(self):
        self.says("0", "put 1 sun")
        self.says("ok", "weaker 0 1")
        self.says("1 sun", "whole")
        self.says("ok", "weaker 0 9998/9999")
        self.says("9998/9999 sun; 1/9999 sun rain snow", "whole")
        self.says("ok", "weaker 0 0")
        self.says("1 sun rain snow", "whole")

    def test_least(self):
        self.assertIn(self.desk.say("least"), ("some sun", "some rain", "some snow"))
        for lines in ("1 sun rain", "1 sun rain snow", "1 rain snow"):
            self.desk.say(f"put {lines}")
        self.says("some rain", "least")
        self.says("3", "put 1/2 sun; 1/2 snow")
        self.says("all 0 2 3", "least")
        self.says("ok", "gone 0")
        self.says("some snow", "least")
        self.says("4", "put 1 sun")
        self.says("all 2 4", "least")

    def test_all_with_numbers_of_two_figures(self):
        for k in range(11):
            self.says(str(k), "put 1 rain")
            self.says("ok", f"gone {k}")
        self.says("11", "put 1 sun")
        self.says("12", "put 1 rain")
        self.says("all 11 12", "least")


class NoLines(AtADesk):
    def test_no_lines(self):
        for row in NO_LINES:
            self.no_line(row)
        self.says("0", "put 1 sun")
        for row in NO_LINES:
            self.no_line(row)
        self.says("1 sun", "whole")
        self.says("1", "put 1 sun")

    def test_any_text(self):
        chance = random.Random(2300)
        signs = [chr(k) for k in range(32, 127) if k != 37]
        for k in range(300):
            self.no_line("".join(chance.choice(signs) for j in range(chance.randint(1, 30))) + "?")
        words = ("put", "gone", "whole", "surely", "may", "clash", "least", "weaker")
        for word in words:
            for other in ("s", "!", ";", "?", ",sun"):
                self.no_line(word + other)
                self.no_line(other + " " + word)
            self.no_line(word.upper())
        self.says("1 sun rain snow", "whole")

    def test_ahead_of_all_else(self):
        # Nothing of these is asked whether the piece stands: they are no rows.
        for row in ("gone 7 ", "weaker 7 3/2", "weaker 7 2/4", "weaker 7", "gone 07"):
            self.no_line(row)
        self.refuses(NoPiece, {"number": 7}, self.desk.say, "gone 7")
        self.refuses(NoPiece, {"number": 7}, self.desk.say, "weaker 7 1/2")
        for k in range(8):
            self.says(str(k), "put 1 sun")
        self.no_line("put")
        self.no_line("puts 1 sun")


class NoTexts(AtADesk):
    def test_put_without_a_sign(self):
        self.no_text(0, 0, "put ")
        self.says("1 sun rain snow", "whole")

    def test_lines(self):
        for row, word, lines in (
            (0, 0, "sun"), (0, 1, "1"), (0, 1, "1 sin"), (0, 0, "0 sun"), (0, 0, "2 sun"), (0, 0, " 1 sun"),
            (0, 2, "1 sun "),
            (0, 1, "1  sun"), (0, 2, "1 rain sun"), (0, 2, "1 sun sun"), (1, 0, "1/2 sun; "), (1, 0, "1/2 sun; x"),
            (1, 1, "1/2 sun; 1/2 sun"), (1, 0, "1/2 sun"), (2, 0, "1/2 sun; 1/3 rain"), (1, 1, "1/2 sun; 1/2 rain;"),
            (0, 1, "1/2 sun;1/2 rain"), (0, 2, "1/2 sun ; 1/2 rain"), (1, 0, "1/2 sun;  1/2 rain"), (0, 0, "; "),
            (0, 2, "1 - sun"), (0, 0, "- sun"), (0, 0, "2/4 sun"), (2, 1, "1/3 sun; 1/3 rain; 1/3"),
            (0, 0, "put 1 sun"),
        ):
            self.no_text(row, word, f"put {lines}")
            self.says("1 sun rain snow", "whole")
        self.says("0", "put 1 sun")

    def test_lines_that_are_not_closed(self):
        self.no_text(0, 1, "put 1 -")
        self.no_text(0, 1, "put 1/2 -; 1/2 sun")
        self.no_text(2, 1, "put 1/2 rain; 1/4 sun; 1/4 -")
        self.no_text(1, 1, "put 1/2 rain; 1/4 -; 1/4 sun")
        # As texts they are asked first.
        self.no_text(2, 0, "put 1/2 -; 1/4 sun")
        self.no_text(1, 0, "put 1/2 -; x sun")
        self.no_text(0, 2, "put 1 - -")
        self.says("1 sun rain snow", "whole")
        self.says("0", "put 1 sun")

    def test_sets(self):
        for word in ("surely", "may"):
            for at, some in ((0, "sin"), (1, "sun sin"), (1, "rain sun"), (1, "sun sun"), (1, "- sun"), (1, "sun -"),
                             (1, "- -"), (0, "1"), (0, "SUN"), (2, "sun rain rain"), (0, "sun;"), (2, "sun rain x"),
                             (0, "sun,rain")):
                self.no_text(0, at, f"{word} {some}")
            # A blank at an end, or two side by side: behind the first one a word without signs, which is no name.
            for at, some in ((0, ""), (0, " sun"), (1, "sun "), (1, "sun  rain"), (1, "- "), (0, " ")):
                self.no_text(0, at, f"{word} {some}")

    def test_behind_texts_as_the_keeper_refuses(self):
        for k in range(8):
            self.says(str(k), "put 1 sun rain snow")
        self.refuses(TooMany, {}, self.desk.say, "put 1 sun")
        self.no_text(0, 1, "put 1 -")
        self.no_text(0, 0, "put ")
        self.no_text(1, 0, "put 1/2 sun")
        for number in (8, 999999, 10, 123456):
            self.refuses(NoPiece, {"number": number}, self.desk.say, f"gone {number}")
            self.refuses(NoPiece, {"number": number}, self.desk.say, f"weaker {number} 1/2")
        self.says("1 sun rain snow", "whole")
        self.says("ok", "gone 3")
        self.says("8", "put 1 sun")


class ManyDesks(Case):
    def test_any_deeds(self):
        chance = random.Random(2310)
        letters = ("a", "bb", "ccc", "dddd", "eeeee", "zzzzzzzz")
        for n in range(1, 7):
            names, stands, due = letters[:n], {}, 0
            desk = Desk(names)
            for k in range(20):
                belief = closed(chance, n, many=chance.randint(1, 5))
                if len(stands) < 8:
                    lines = shown_belief(names, belief)
                    chance.shuffle(lines)
                    self.tells(str(due), desk.say, "put " + "; ".join(lines))
                    stands[due] = belief
                    due += 1
                number = chance.choice(sorted(stands))
                if chance.randint(0, 1):
                    share = short_share(chance)
                    self.tells("ok", desk.say, f"weaker {number} {shown_fraction(share)}")
                    stands[number] = plain_weaker(n, stands[number], share)
                elif len(stands) > 3:
                    self.tells("ok", desk.say, f"gone {number}")
                    del stands[number]
                self.look(n, names, desk, stands, chance.randrange(2 ** n))

    def look(self, n, names, desk, stands, some):
        whole = plain_whole(n, [stands[number] for number in sorted(stands)])
        self.tells("; ".join(shown_belief(names, whole)), desk.say, "whole")
        self.tells(shown_fraction(dict(whole).get(0, NOUGHT)), desk.say, "clash")
        for word in ("surely", "may"):
            wanted = shown_fraction(plain_table(word, n, whole)[some])
            self.tells(wanted, desk.say, f"{word} {shown_set(names, some)}")
        word, *rest = self.ask(desk.say, "least").split(" ")
        beliefs = [stands[number] for number in sorted(stands)]
        if word == "some":
            self.assertEqual(len(rest), 1)
            self.assertTrue(lets_clash(n, beliefs, ("some", names.index(rest[0]))))
        else:
            self.assertEqual(word, "all")
            numbers = [int(number) for number in rest]
            self.assertEqual(rest, [str(number) for number in sorted(set(numbers))])
            for spared in [None] + numbers:
                left = plain_whole(n, [stands[number] for number in numbers if number != spared])
                self.assertEqual(left == ((0, (1, 1)),), spared is None)

    def test_two_desks_by_turns(self):
        one, other = Desk(NAMES), Desk(("a", "b"))
        self.tells("0", one.say, "put 1 sun")
        self.tells("0", other.say, "put 1/2 a; 1/2 b")
        self.tells("1", one.say, "put 1 rain")
        self.tells("1", one.say, "clash")
        self.tells("0", other.say, "clash")
        self.tells("ok", other.say, "weaker 0 0")
        self.tells("1 a b", other.say, "whole")
        self.tells("1 -", one.say, "whole")
        self.refuses(NoPiece, {"number": 1}, other.say, "gone 1")
        self.refuses(NoText, {"row": 0, "word": 0}, other.say, "surely sun")
        self.tells("all 0 1", one.say, "least")

    def test_names_of_a_word(self):
        desk = Desk(("whole", "put", "may"))
        self.tells("0", desk.say, "put 1/2 whole put; 1/2 may")
        self.tells("1/2", desk.say, "may whole")
        self.tells("1/2", desk.say, "surely put may")
        self.tells("1/2 whole put; 1/2 may", desk.say, "whole")


if __name__ == "__main__":
    unittest.main()
