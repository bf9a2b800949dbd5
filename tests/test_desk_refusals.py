"""What the desk refuses; the house stays as it was."""

import unittest
from unittest import mock

from desks import ASKED, START, answers, desk
from houses import refused
from kindlestair.desk import Desk
from kindlestair.errors import (
    Burns, Cold, Dark, NoBack, NoDeed, NoName, NoSay, NoStanding, NoStores, NoWeb, Wanting)
from samples import odd_things

ALONE = ("back", "burning", "rest", "may", "loose", "freeing", "sparks", "spare", "web")
NAMED = ("kindle", "out", "gust", "spark", "for", "paper")
ODD_NAMES = ("A", "bB", "b1", "1", "abcdefg", "b_c", "b-", "b,", "b;", "", "+b", "b.", "\u00e9", "b\n", "\nb", "b\t")
ODD_NUMBERS = ("01", "00", "+1", "-1", "-0", "1.0", "1e1", "one", "x", "", "1,", "1_0", "0x1", "1000000000", "0000000001",
               "12345678901", "9" * 3000, "\u0661", "\u00b2", "1\n", "1\t")


class Refusals(unittest.TestCase):
    def setUp(self):
        self.desk = desk(rows=START + ("kindle b", "spark d"))
        self.before = answers(self.desk)

    def tearDown(self):
        self.assertEqual(answers(self.desk), self.before)
        # Nothing refused is a deed: the last one is still the spark.
        self.desk.say("back")
        self.assertEqual(self.desk.say("burning"), "b")

    def refuses(self, row, refusal, **fields):
        refused(self, lambda: self.desk.say(row), refusal, **fields)
        refused(self, lambda: self.desk.say(row=row), refusal, **fields)

    def no_say(self, *rows):
        for row in rows:
            self.refuses(row, NoSay)


class NoSays(Refusals):
    def test_what_is_no_text(self):
        things = odd_things() + [0, 1, ["burning"], ("burning",), b"burning", {"burning": 1}, ("kindle", "b")]
        self.no_say(*[thing for thing in things if not isinstance(thing, str)])

    def test_another_word(self):
        self.no_say("", " ", "-", "ok", "Burning", "burnin", "burnings", "build e 1 1", "do b", "leads b", "stores 2",
                    "over b", "never", "here", "a", "b", "hearths e 1 1", "put b", "Kindle b", "row b", "gives 0 1", "1",
                    "may_burn", "log", "steps", "least b", "do_all", "house", "\n", "burning\n", "\nburning", "say")
        self.no_say(*[thing for thing in odd_things() if isinstance(thing, str)])

    def test_words_more_or_fewer(self):
        self.no_say(*[f"{word} {more}" for word in ALONE for more in ("b", "-", "1", "b c", word)])
        self.no_say(*[word for word in NAMED])
        self.no_say(*[f"{word} {more}" for word in NAMED for more in ("b c", "b b", "b -", "b 1", "b c d", "-")])
        self.no_say("hearth", "hearth e", "hearth e 1 1 b", "hearth e 1 1 over", "hearth e over b", "hearth 1 1", "to",
                    "give", "give 0", "give 0 1 2", "give 0 1 b", "hearth e 1 1 over b 1", "hearth e 1 over b over b 1")

    def test_blanks(self):
        rows = [f"{word} b" for word in NAMED] + list(ALONE)
        rows += ["hearth e 1 1", "hearth e 1 1 over b", "give 0 9", "to b", "to b d", "to -"]
        for row in rows:
            self.no_say(f" {row}", f"{row} ", f" {row} ", row + "\n", "\n" + row, row + "\t")
            if " " in row:
                self.no_say(row.replace(" ", "  "), row.replace(" ", "  ", 1), row.replace(" ", "\t"),
                            row.replace(" ", "\n"), "  ".join(row.rsplit(" ", 1)), row.replace(" ", ""))

    def test_names_that_are_not_so_written(self):
        for name in ODD_NAMES:
            self.no_say(*[f"{word} {name}" for word in NAMED])
            self.no_say(f"to {name}", f"to b {name}", f"to {name} b", f"hearth {name} 1 1", f"hearth e 1 1 over {name}",
                        f"hearth e 1 1 over b {name}", f"hearth e 1 1 over {name} b", f"hearth {name} 1 1 over b")
        self.no_say("to - b", "to b -", "to - -", "to --", "to ()")

    def test_numbers_that_are_not_so_written(self):
        for number in ODD_NUMBERS:
            self.no_say(f"give {number} 1", f"give 0 {number}", f"give {number} {number}", f"hearth e {number} 1",
                        f"hearth e 1 {number}", f"hearth e {number}", f"hearth e 1 {number} over b")

    def test_the_word_over(self):
        self.no_say("hearth e 1 1 under b", "hearth e 1 1 Over b", "hearth e 1 1 b over", "hearth e over 1 1",
                    "hearth e 1 over 1", "hearth e 1 1 over b 1", "hearth e 1 1 over 1", "hearth over", "hearth over over b")

    def test_written_so_comes_ahead_of_what_can_be_done(self):
        self.no_say("kindle nobody b", "give 9 61 1", "to nobody B", "hearth b 10 10 over", "out B", "back 1")


class ByTheHouse(Refusals):
    def test_deeds(self):
        self.refuses("kindle b", Burns, name="b")
        self.refuses("spark d", Burns, name="d")
        self.refuses("out a", Dark, name="a")
        self.refuses("gust c", Dark, name="c")
        self.refuses("out d", Cold, name="d")
        self.refuses("give 0 2", Wanting, store=0)
        self.refuses("give 1 3", Wanting, store=1)
        self.refuses("give 1 0", Wanting, store=1)

    def test_too_little(self):
        made = desk(rows=START + ("give 0 2", "kindle b"))
        refused(self, lambda: made.say("kindle a"), Wanting, store=0)
        refused(self, lambda: made.say("spark d"), Wanting, store=0)
        made.say("give 1 3")
        refused(self, lambda: made.say("kindle c"), Wanting, store=1)
        refused(self, lambda: desk().say("kindle a"), Cold, name="a")

    def test_names_of_no_hearth(self):
        for name in ("e", "x", "nobody", "ab", "over", "kindle", "zzzzzz"):
            for word in ("kindle", "out", "gust", "spark"):
                self.refuses(f"{word} {name}", NoDeed)

    def test_stores_that_are_not_and_what_none_can_give(self):
        for row in ("give 2 1", "give 3 0", "give 999999999 1", "give 0 61", "give 1 61", "give 0 999999999", "give 2 61"):
            self.refuses(row, NoDeed)

    def test_hearths(self):
        for row in ("hearth b 1 1", "hearth e 1", "hearth e 1 1 1", "hearth e 0 0", "hearth e 10 1", "hearth e 1 10",
                    "hearth e 999999999 1", "hearth e 1 1 over x", "hearth e 1 1 over e", "hearth e 1 1 over b b",
                    "hearth e 1 over b", "hearth e 0 0 over b", "hearth e 1 1 1 1 1 1", "hearth e 1 1 over over"):
            self.refuses(row, NoWeb, place=4)

    def test_a_seventeenth_hearth(self):
        made = desk(1, [f"hearth {letter} 1" for letter in "abcdefghijklmnop"])
        for row in ("hearth q 1", "hearth a 1", "hearth q 1 1"):
            refused(self, lambda: made.say(row), NoWeb, place=None)
        refused(self, lambda: Desk().say("hearth a 10"), NoWeb, place=0)

    def test_nothing_to_take_back(self):
        made = Desk(2)
        refused(self, lambda: made.say("back"), NoBack)
        made.say("give 0 1")
        made.say("back")
        refused(self, lambda: made.say("back"), NoBack)


class ByTheFunctions(Refusals):
    def test_to(self):
        for row in ("to x", "to b x", "to x b", "to nobody", "to over", "to b b", "to b d b", "to a a", "to x x", "to zzzzzz"):
            self.refuses(row, NoStanding, store=None)

    def test_to_what_draws_too_much(self):
        self.desk.say("to a b c d")
        made = desk(rows=START + ("give 0 3", "give 1 5"))
        for names, store in (("a b", 0), ("b a", 0), ("c b", 1), ("b c", 1), ("d c a", 0), ("c d", 1), ("d c b a", 0)):
            refused(self, lambda: made.say(f"to {names}"), NoStanding, store=store)
        for names in ("a b x", "b a a"):
            refused(self, lambda: made.say(f"to {names}"), NoStanding, store=None)

    def test_for_and_paper(self):
        for name in ("e", "x", "nobody", "ab", "over", "zzzzzz"):
            self.refuses(f"for {name}", NoName, name=name)
            self.refuses(f"paper {name}", NoName, name=name)


class Papers(unittest.TestCase):
    def test_no_where_the_checker_does_not_take_the_paper(self):
        made = desk()
        self.assertEqual(made.say("paper d"), "holds")
        with mock.patch("kindlestair.desk.paper_burns", lambda web, gives, one, name: (("burns",), ())):
            self.assertEqual(made.say("paper d"), "no")

    def test_the_house_s_paper_of_whether_it_can_burn(self):
        made = desk(rows=START + ("spark d", "give 0 4"))
        asked = []
        with mock.patch("kindlestair.desk.holds", lambda claim, paper: bool(asked.append((claim, paper))) or True):
            made.say("paper b")
            made.say("paper c")
        self.assertEqual([claim[0] for claim, _ in asked], ["burns", "burns"])
        self.assertEqual([claim[3:] for claim, _ in asked], [((4, 8), ("d",), "b"), ((4, 8), ("d",), "c")])


class Stores(unittest.TestCase):
    def test_no_number_of_stores(self):
        for thing in odd_things() + [0, 4, -1, 10 ** 30, "1", "a", (), (1,), [1], b"1"]:
            refused(self, lambda: Desk(thing), NoStores)
            refused(self, lambda: Desk(stores=thing), NoStores)

    def test_one_argument(self):
        with self.assertRaises(TypeError):
            Desk(1, 1)
        for arguments in ((), ("burning", "burning")):
            with self.assertRaises(TypeError):
                Desk().say(*arguments)

    def test_nine_figures_are_a_number(self):
        refused(self, lambda: Desk().say("give 0 123456789"), NoDeed)
        refused(self, lambda: Desk().say("give 123456789 0"), NoDeed)
        refused(self, lambda: Desk().say("give 0 1234567890"), NoSay)
        refused(self, lambda: Desk().say("hearth a 123456789"), NoWeb, place=0)
        refused(self, lambda: Desk().say("hearth a 1234567890"), NoSay)

    def test_all_that_is_asked_of_a_desk_without_hearths(self):
        for stores in (1, 2, 3):
            for row in ASKED:
                self.assertIsInstance(Desk(stores).say(row), str)


if __name__ == "__main__":
    unittest.main()
