"""Each row of the desk, what it tells, and that it changes the house or doesn't."""

import itertools
import unittest

import grown
import plain
from desks import ASKED, START, answers, deed_row, desk, rebuilt, written
from houses import lived, state
from kindlestair.desk import Desk
from kindlestair.gusts import freeing, sparks
from kindlestair.rests import loose, may_burn, rest
from kindlestair.switches import gone
from kindlestair.ways import row_for, row_to
from kindlestair.webs import Web
from kindlestair.webtexts import read_web


def joined(names):
    return " ".join(names) or "-"


class AtFirst(unittest.TestCase):
    def test_without_hearths_whose_stores_give_0(self):
        for stores in (1, 2, 3):
            made = Desk(stores)
            self.assertEqual(made.say("web"), f"stores {stores}")
            self.assertEqual(made.say("spare"), " ".join(["0"] * stores))
            for row in ("burning", "rest", "may", "loose", "freeing", "sparks"):
                self.assertEqual(made.say(row), "-")
            self.assertEqual(made.say("to -"), "here")

    def test_one_store_where_none_is_told(self):
        self.assertEqual(Desk().say("web"), "stores 1")
        self.assertEqual(Desk(stores=3).say("web"), "stores 3")

    def test_two_desks_are_not_in_each_other_s_way(self):
        one, other = Desk(), Desk()
        one.say("hearth a 1")
        self.assertEqual(other.say("web"), "stores 1")


class Done(unittest.TestCase):
    """Rows that change the house: each tells ok."""

    def does(self, a_desk, row, **then):
        self.assertEqual(a_desk.say(row), "ok")
        for word, told in then.items():
            self.assertEqual(a_desk.say(word), told, row)

    def test_hearth(self):
        made = Desk(2)
        self.does(made, "hearth b 1 2", web="stores 2; hearth b 1 2", burning="-")
        self.does(made, "hearth a 0 9 over b", web="stores 2; hearth b 1 2; hearth a 0 9 over b", burning="-")
        self.does(made, "hearth over 1 1 over a b")
        self.does(made, "hearth hearth 1 1 over over", burning="-")
        self.assertEqual(made.say("web"), "stores 2; hearth b 1 2; hearth a 0 9 over b; hearth over 1 1 over a b; "
                                          "hearth hearth 1 1 over over")

    def test_sixteen_hearths(self):
        made = Desk()
        for letter in "abcdefghijklmnop":
            self.does(made, f"hearth {letter} 1")
        self.assertEqual(len(made.say("web").split("; ")), 17)

    def test_give(self):
        made = desk(rows=START[:4])
        self.does(made, "give 0 6", spare="6 0")
        self.does(made, "give 1 60", spare="6 60")
        self.does(made, "give 1 8", spare="6 8")
        self.does(made, "give 0 0", spare="0 8")

    def test_kindle_and_out(self):
        made = desk()
        self.does(made, "kindle b", burning="b", spare="5 6")
        self.does(made, "kindle a", burning="a b", spare="2 6")
        self.does(made, "out b", burning="a", spare="3 8")

    def test_gust_and_spark(self):
        made = desk()
        self.does(made, "spark d", burning="d", spare="4 6")
        self.does(made, "spark a", burning="a d", spare="1 6")
        self.does(made, "gust d", burning="a", spare="3 8")
        self.does(made, "gust a", burning="-", spare="6 8")

    def test_back(self):
        made = desk()
        self.does(made, "spark d", burning="d")
        self.does(made, "hearth e 1 1 over d")
        self.does(made, "give 0 60", spare="58 6")
        self.does(made, "back", spare="4 6")
        self.does(made, "back", web=desk().say("web"), burning="d")
        self.does(made, "back", burning="-", spare="6 8")
        for _ in START:
            self.does(made, "back")
        self.assertEqual(answers(made), answers(Desk(2)))


class Asked(unittest.TestCase):
    """Rows that ask: they change nothing."""

    def test_names_and_spares(self):
        made = desk(rows=START + ("spark d",))
        rows = {"burning": "d", "rest": "-", "may": "b a d c", "loose": "d", "freeing": "d", "spare": "4 6"}
        for row, told in rows.items():
            self.assertEqual(made.say(row), told, row)
        made.say("give 0 4")
        made.say("give 1 3")
        rows = {"burning": "d", "rest": "d", "may": "d", "loose": "-", "freeing": "d", "sparks": "-", "spare": "2 1"}
        for row, told in rows.items():
            self.assertEqual(made.say(row), told, row)

    def test_orders(self):
        made = desk(1, ("hearth c 1", "hearth a 1", "hearth b 1 over a", "give 0 60", "spark b", "kindle c"))
        self.assertEqual(made.say("burning"), "b c")
        self.assertEqual(made.say("may"), "c a b")
        self.assertEqual(made.say("loose"), "c b")
        self.assertEqual(made.say("freeing"), "c b")
        self.assertEqual(made.say("sparks"), "a")
        stuck = desk(1, ("hearth z 9", "hearth c 1 over z", "hearth b 1 over z", "give 0 8", "spark c", "spark b"))
        self.assertEqual(stuck.say("rest"), "b c")

    def test_to(self):
        made = desk(1, ("hearth a 1", "hearth b 1 over a", "hearth c 1 over b", "give 0 2"))
        self.assertEqual(made.say("to a"), "+a")
        self.assertEqual(made.say("to b"), "+a +b -a")
        self.assertEqual(made.say("to b a"), "+a +b")
        self.assertEqual(made.say("to a b"), "+a +b")
        self.assertEqual(made.say("to -"), "here")
        self.assertEqual(made.say("to c"), "never")
        self.assertEqual(made.say("burning"), "-")
        made.say("kindle a")
        self.assertEqual(made.say("to -"), "-a")
        self.assertEqual(made.say("to a"), "here")
        made.say("spark c")
        self.assertEqual(made.say("to c"), "-a")
        self.assertEqual(made.say("to c a"), "here")
        self.assertEqual(made.say("to -"), "never")

    def test_for(self):
        made = desk(1, ("hearth a 1", "hearth b 1 over a", "hearth c 1 over b", "hearth d 1 over c", "give 0 2"))
        self.assertEqual(made.say("for a"), "+a")
        self.assertEqual(made.say("for b"), "+a +b")
        self.assertEqual(made.say("for c"), "+a +b -a +c")
        self.assertEqual(made.say("for d"), "never")
        self.assertEqual(made.say("burning"), "-")
        made.say("spark d")
        self.assertEqual(made.say("for d"), "here")
        self.assertEqual(made.say("for b"), "never")

    def test_paper(self):
        made = desk(1, ("hearth a 1", "hearth b 1 over a", "hearth c 1 over b", "hearth d 1 over c", "give 0 2"))
        for name in "abcd":
            self.assertEqual(made.say(f"paper {name}"), "holds")
        made.say("spark d")
        for name in "abcd":
            self.assertEqual(made.say(f"paper {name}"), "holds")

    def test_web_is_read_back(self):
        made = desk()
        self.assertEqual(read_web(made.say("web").replace("; ", "\n")), Web(2, (
            ("b", (1, 2), ()), ("a", (3, 0), ("b",)), ("d", (2, 2), ("a",)), ("c", (0, 4), ()))))

    def test_asking_changes_nothing(self):
        made = desk(rows=START + ("kindle b", "spark d"))
        before = answers(made)
        for row in ASKED + ("to a", "to b a", "for c", "for a", "paper a", "paper c"):
            first = made.say(row)
            self.assertIsInstance(first, str)
            self.assertEqual(made.say(row), first)
            self.assertEqual(answers(made), before)
        # Only what was done is taken back.
        made.say("back")
        self.assertEqual(made.say("burning"), "b")


class Beside(unittest.TestCase):
    """What the desk tells is what the house and the functions tell."""

    def test_lives(self):
        tried = set()
        for number in range(90):
            made, ahead = lived(number)
            start = ahead[0][:2] if ahead else (made.web(), made.gives())
            said = rebuilt(made, start)
            self.same(said, made, tried)
            for _ in made.log()[::2]:
                made.back()
                self.assertEqual(said.say("back"), "ok")
                self.same(said, made, tried)
        self.assertEqual(tried, {"never", "here", "row"})

    def same(self, said, made, tried):
        web, gives, burning = state(made)
        self.assertEqual(said.say("web"), str(web).replace("\n", "; "))
        self.assertEqual(said.say("burning"), str(made))
        self.assertEqual(said.say("spare"), " ".join(map(str, made.spare())))
        self.assertEqual(said.say("rest"), joined(rest(web, gives, burning)))
        self.assertEqual(said.say("may"), joined(may_burn(web, gives, burning)))
        self.assertEqual(said.say("loose"), joined(loose(web, gives, burning)))
        self.assertEqual(said.say("freeing"), joined(freeing(web, gives, burning)))
        self.assertEqual(said.say("sparks"), joined(sparks(web, gives, burning)))
        for name in web.names()[:3]:
            self.assertEqual(said.say(f"for {name}"), written(row_for(web, gives, burning, name)))
            self.assertEqual(said.say(f"paper {name}"), "holds")
        if len(web) <= 6:
            for names in plain.standings(web.hearths, gives)[:12:3]:
                told = said.say("to " + joined(reversed(names)))
                self.assertEqual(told, written(row_to(web, gives, burning, names)))
                tried.add(told if told in ("never", "here") else "row")

    def test_rows_told_can_be_done_by_the_desk(self):
        """The row of `to`, said switch by switch, leads there."""
        for stores, hearths, gives in grown.small_webs(12, largest=5)[::4]:
            made = Desk(stores)
            for hearth in hearths:
                made.say(deed_row(("build", hearth)))
            for store, many in enumerate(gives):
                made.say(f"give {store} {many}")
            for names in itertools.islice(plain.standings(hearths, gives), 0, 40, 5):
                row = made.say("to " + joined(names))
                if row not in ("never", "here"):
                    for word in row.split(" "):
                        made.say(("kindle " if word[0] == "+" else "out ") + word[1:])
                    self.assertEqual(made.say("burning"), joined(names))
                    self.assertEqual(made.say("to " + joined(names)), "here")

    def test_rows_are_those_of_switches(self):
        made = desk(rows=START + ("spark d",))
        web = read_web(made.say("web").replace("; ", "\n"))
        row = tuple([("kindle" if word[0] == "+" else "out", word[1:]) for word in made.say("to c b").split(" ")])
        self.assertEqual(gone(web, (6, 8), ("d",), row), ("b", "c"))


if __name__ == "__main__":
    unittest.main()
