"""Claims that are so are taken with their papers; what isn't so is never taken, whatever the paper."""

import ast
import itertools
import pathlib
import subprocess
import sys
import unittest

import grown
import plain
import tables
from kindlestair.checker import holds
from samples import odd_things

ROOT = pathlib.Path(__file__).resolve().parent.parent

# Where many burn at once the tables are long, and it takes long to go through many of them.
WEBS = [row for row in grown.small_webs(60, largest=6) if row[1] and len(plain.standings(*row[1:])) <= 40]


def pieces(things, many):
    """At most so many of the things, from all over."""
    return things[::1 + len(things) // many]


class Told:
    """All that is so of a web by its gives, told by a plain search."""

    def __init__(self, stores, hearths, gives):
        self.start = (stores, hearths, gives)
        self.hearths, self.gives = hearths, gives
        self.lots = plain.lots(hearths, gives)
        self.burning_in = plain.all_may_burn(hearths, gives)
        self.standings = list(self.lots)
        self.names = [hearth[0] for hearth in hearths]

    def pairs(self, many):
        return pieces(list(itertools.product(self.standings, repeat=2)), many)

    def claim(self, word, *told):
        return (word, *self.start, *told)


class Taken(unittest.TestCase):
    def taken(self, claim, paper):
        self.assertIs(holds(claim, paper), True, (claim, paper))

    def not_taken(self, claim, paper):
        self.assertIs(holds(claim, paper), False, (claim, paper))

    def test_leads_and_apart(self):
        for row in WEBS:
            told = Told(*row)
            for one, other in told.pairs(30):
                paper = tables.paper_apart(told.hearths, told.gives, one, other)
                way = tables.row_between(told.hearths, told.gives, one, other)
                if told.lots[one] == told.lots[other]:
                    self.taken(told.claim("leads", one, other), way)
                    self.not_taken(told.claim("apart", one, other), paper)
                else:
                    self.taken(told.claim("apart", one, other), paper)
                    self.not_taken(told.claim("leads", one, other), paper[0])

    def test_burns_and_never(self):
        for row in WEBS:
            told = Told(*row)
            for one in pieces(told.standings, 8):
                paper = tables.paper_rest(told.hearths, told.gives, one)
                for name in told.names:
                    ends = [end for end in told.standings if told.lots[end] == told.lots[one] and name in end]
                    if name in told.burning_in[one]:
                        way = tables.row_between(told.hearths, told.gives, one, ends[0])
                        self.taken(told.claim("burns", one, name), way)
                        self.not_taken(told.claim("never", one, name), paper)
                    else:
                        self.assertEqual(ends, [])
                        self.taken(told.claim("never", one, name), paper)
                        self.not_taken(told.claim("burns", one, name), paper[0])

    def test_goes_and_stays(self):
        for row in WEBS:
            told = Told(*row)
            for one in pieces(told.standings, 8):
                paper = tables.paper_rest(told.hearths, told.gives, one)
                for name in told.names:
                    if name in paper[1]:
                        self.taken(told.claim("stays", one, name), paper)
                        self.not_taken(told.claim("goes", one, name), paper[0])
                    else:
                        self.not_taken(told.claim("stays", one, name), paper)
                        self.taken(told.claim("goes", one, name), paper[0])

    def test_least(self):
        for stores, hearths, gives in WEBS:
            told = Told(stores, hearths, gives)
            for one, other in told.pairs(12):
                for store in range(stores):
                    paper = tables.paper_least(hearths, gives, one, other, store)
                    by_less = plain.lots(hearths, tables.one_less(gives, store)) if gives[store] else {}
                    leads = told.lots[one] == told.lots[other]
                    still = one in by_less and other in by_less and by_less[one] == by_less[other]
                    self.assertIs(holds(told.claim("least", one, other, store), paper), leads and not still)

    def test_a_web_without_hearths(self):
        for stores, hearths, gives in ((1, (), (0,)), (3, (), (60, 0, 1))):
            self.taken(("leads", stores, hearths, gives, (), ()), ())
            self.not_taken(("apart", stores, hearths, gives, (), ()), ((), (), (), (), ()))
            self.not_taken(("burns", stores, hearths, gives, (), "a"), ())
            self.not_taken(("never", stores, hearths, gives, (), "a"), ((), (), ((gives, "", ()),)))
            self.not_taken(("goes", stores, hearths, gives, (), "a"), ())
        self.taken(("least", 1, (), (0,), (), (), 0), ((), None))
        self.not_taken(("least", 1, (), (1,), (), (), 0), ((), None))

    def test_sixteen_hearths_and_gives_of_60(self):
        hearths = grown.stair([(1,)] * 16)
        row = tuple([("kindle", letter) for letter in grown.LETTERS])
        self.taken(("leads", 1, hearths, (60,), (), tuple(grown.LETTERS)), row)
        self.taken(("burns", 1, hearths, (16,), (), "p"), row)
        self.not_taken(("burns", 1, hearths, (15,), (), "p"), row)

    def test_told_again_the_same_and_nothing_is_changed(self):
        told = Told(*grown.FEEDERS[:2], (3,))
        for one in told.standings:
            paper = tables.paper_rest(told.hearths, told.gives, one)
            claims = [told.claim("stays", one, name) for name in told.names]
            kept = repr((claims, paper))
            first = [holds(claim, paper) for claim in claims]
            self.assertEqual([holds(claim=claim, paper=paper) for claim in claims], first)
            self.assertEqual(repr((claims, paper)), kept)


class Sound(unittest.TestCase):
    """Papers with one thing left out, put in or taken from another claim: whatever is taken is so."""

    def papers(self, many):
        """Rows of what is told of a web, a standing of it and a paper of its rest with a table that isn't long."""
        for row in WEBS:
            told = Told(*row)
            for one in pieces(told.standings, many):
                paper = tables.paper_rest(told.hearths, told.gives, one)
                if len(paper[2]) <= 60:
                    yield told, one, paper

    def test_no_entry_and_no_name_can_be_left_out(self):
        tried = 0
        for told, one, (way, left, table) in self.papers(6):
            name = next((name for name in told.names if name not in told.burning_in[one]), None)
            if name is None:
                continue
            claim = told.claim("never", one, name)
            self.assertIs(holds(claim, (way, left, table)), True)
            for at, (spare, over, names) in enumerate(table):
                self.assertIs(holds(claim, (way, left, table[:at] + table[at + 1:])), False)
                for out in range(len(names)):
                    entry = (spare, over, names[:out] + names[out + 1:])
                    self.assertIs(holds(claim, (way, left, table[:at] + (entry,) + table[at + 1:])), False)
                    tried += 1
        self.assertGreater(tried, 100)

    def test_names_put_in(self):
        taken = 0
        for told, one, (way, left, table) in self.papers(4):
            for at, (spare, over, names) in pieces(list(enumerate(table)), 5):
                for name in told.names:
                    entry = (spare, over, tuple(sorted({*names, name} - {over})))
                    paper = (way, left, table[:at] + (entry,) + table[at + 1:])
                    for other in told.names:
                        if holds(told.claim("never", one, other), paper):
                            self.assertNotIn(other, told.burning_in[one])
                            taken += 1
        self.assertGreater(taken, 100)

    def test_papers_of_other_claims(self):
        rows = list(self.papers(4))
        for told, one, _ in rows:
            in_all = frozenset.intersection(*plain.led_to(told.hearths, told.gives, one))
            papers = [paper for other, _, paper in rows if other is told]
            for (way, left, _), (_, _, table) in itertools.product(papers, papers):
                for name in told.names:
                    if holds(told.claim("never", one, name), (way, left, table)):
                        self.assertNotIn(name, told.burning_in[one])
                    if holds(told.claim("stays", one, name), (way, left, table)):
                        self.assertIn(name, in_all)

    def test_what_is_no_rest(self):
        for told, one, (_, left, _) in self.papers(6):
            if one != left:
                table = tables.Table(told.hearths)
                table.ask_over(table.ask_rest(told.gives, one), one)
                for name in told.names:
                    for word in ("never", "stays"):
                        self.assertIs(holds(told.claim(word, one, name), ((), one, table.told())), False)


class OfAnyKind(unittest.TestCase):
    def test_claims_and_papers_of_any_kind(self):
        told = Told(*grown.UNEVEN[:2], (10,))
        one = ("e",)
        way, left, table = tables.paper_rest(told.hearths, told.gives, one)
        claims = {
            "leads": (told.claim("leads", one, one), ()),
            "burns": (told.claim("burns", one, "e"), ()),
            "goes": (told.claim("goes", one, "b"), ()),
            "apart": (told.claim("apart", one, ()), tables.paper_apart(told.hearths, told.gives, one, ())),
            "never": (told.claim("never", one, "f"), (way, left, table)),
            "stays": (told.claim("stays", one, "e"), (way, left, table)),
            "least": (("least", 1, told.hearths, (12,), (), ("d",), 0),
                      tables.paper_least(told.hearths, (12,), (), ("d",), 0)),
        }
        for word, (claim, paper) in claims.items():
            self.assertIs(holds(claim, paper), True, word)
            things = odd_things() + [0, 1, "a", ("a",), [claim], list(claim), dict(enumerate(claim))]
            for thing in things:
                self.assertIs(holds(thing, paper), False)
                self.assertIs(holds(thing, thing), False)
                if repr(thing) != repr(paper):
                    self.assertIs(holds(claim, thing), False)
                for at in range(len(claim)):
                    if repr(thing) != repr(claim[at]):
                        self.assertIs(holds(claim[:at] + (thing,) + claim[at + 1:], paper), False, (word, at, thing))
                for at in range(len(paper)):
                    if repr(thing) != repr(paper[at]):
                        self.assertIs(holds(claim, paper[:at] + (thing,) + paper[at + 1:]), False, (word, at, thing))


class OwnParts(unittest.TestCase):
    def test_it_imports_nothing_of_the_package_but_its_own_parts(self):
        tree = ast.parse((ROOT / "kindlestair" / "checker.py").read_text())
        self.assertEqual([node for node in ast.walk(tree) if isinstance(node, (ast.Import, ast.ImportFrom))], [])
        code = "import sys; import kindlestair.checker; print([m for m in sys.modules if m.startswith('kindlestair')])"
        done = subprocess.run([sys.executable, "-B", "-c", code], cwd=ROOT, capture_output=True, text=True, check=True)
        self.assertEqual(ast.literal_eval(done.stdout), ["kindlestair", "kindlestair.checker"])


if __name__ == "__main__":
    unittest.main()
