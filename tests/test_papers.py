import itertools
import time
import unittest

import grown
import plain
from kindlestair.checker import holds
from kindlestair.leasts import least
from kindlestair.papers import paper_burns, paper_goes, paper_leads, paper_least
from kindlestair.rests import leads, may_burn, rest
from kindlestair.standings import is_standing
from kindlestair.webs import Web
from wrong import WrongInputs


def pieces(things, many):
    """At most so many of the things, from all over."""
    return things[::1 + len(things) // many]


class Told:
    """All that is so of a web by its gives, told by a plain search."""

    def __init__(self, stores, hearths, gives):
        self.web, self.gives, self.hearths = Web(stores, hearths), gives, hearths
        self.start = (stores, hearths, gives)
        self.lots = plain.lots(hearths, gives)
        self.burning_in = plain.all_may_burn(hearths, gives)
        self.standings = list(self.lots)

    def in_all(self, one):
        return frozenset.intersection(*plain.led_to(self.hearths, self.gives, one))


def told_webs(count, largest=7):
    return [Told(*row) for row in grown.small_webs(count, largest=largest)]


class Papers(unittest.TestCase):
    def taken(self, told, claim):
        """The paper is a pair of just this claim and a paper that the checker takes."""
        self.assertIsInstance(told, tuple)
        self.assertEqual(len(told), 2)
        self.assertEqual(told[0], claim)
        self.assertIs(holds(*told), True, told)


class Plain(Papers):
    def test_leads_and_apart(self):
        words = []
        for told in told_webs(60):
            for one, other in pieces(list(itertools.product(told.standings, repeat=2)), 30):
                word = "leads" if told.lots[one] == told.lots[other] else "apart"
                self.taken(paper_leads(told.web, told.gives, one, other), (word, *told.start, one, other))
                words.append(word)
        self.assertGreater(min(words.count("leads"), words.count("apart")), 300)

    def test_burns_and_never(self):
        words = []
        for told in told_webs(60):
            for one in pieces(told.standings, 8):
                for name in told.web.names():
                    word = "burns" if name in told.burning_in[one] else "never"
                    self.taken(paper_burns(told.web, told.gives, one, name), (word, *told.start, one, name))
                    words.append(word)
        self.assertGreater(min(words.count("burns"), words.count("never")), 300)

    def test_goes_and_stays(self):
        words = []
        for told in told_webs(60):
            for one in pieces(told.standings, 8):
                stay = told.in_all(one)
                for name in told.web.names():
                    word = "stays" if name in stay else "goes"
                    self.taken(paper_goes(told.web, told.gives, one, name), (word, *told.start, one, name))
                    words.append(word)
        self.assertGreater(min(words.count("goes"), words.count("stays")), 150)


class Least(Papers):
    def by_number(self, stores, hearths, gives, many):
        """The kinds of papers that were told for one web: which number, and what stands for one less of it."""
        web, kinds = Web(stores, hearths), set()
        names = sorted(web.names())
        rows = [row for size in range(len(names) + 1) for row in itertools.combinations(names, size)]
        for store in range(stores):
            lots = plain.lots_by_number(hearths, gives, store)
            for one, other in pieces(list(itertools.product(rows, repeat=2)), many):
                told = paper_least(web, gives, one, other, store)
                led = plain.led_by(lots, one, other)
                if not led:
                    self.assertIsNone(told)
                    kinds.add(None)
                    continue
                by = gives[:store] + (led[0],) + gives[store + 1:]
                self.taken(told, ("least", stores, hearths, by, one, other, store))
                kinds.add((led[0] == 0, told[1][1] is None))
        return kinds

    def test_grown_and_written_webs(self):
        kinds = set()
        for row in grown.small_webs(50, largest=6)[::2]:
            kinds |= self.by_number(*row, 25)
        # None told; a least of 0; one less makes one of both no standing; one less parts them.
        self.assertEqual(kinds, {None, (True, True), (False, True), (False, False)})

    def test_told(self):
        stair = grown.stair([(1,)] * 4)
        web = Web(1, stair)
        self.taken(paper_least(web, (60,), (), ("d",), 0), ("least", 1, stair, (3,), (), ("d",), 0))
        self.taken(paper_least(web, (0,), ("d",), ("d",), 0), ("least", 1, stair, (1,), ("d",), ("d",), 0))
        self.taken(paper_least(web, (7,), (), (), 0), ("least", 1, stair, (0,), (), (), 0))
        self.assertEqual(paper_least(web, (7,), (), (), 0)[1], ((), None))
        two = (("a", (1, 0), ()), ("b", (0, 2), ("a",)))
        self.taken(paper_least(Web(2, two), (1, 9), (), ("b",), 1), ("least", 2, two, (1, 2), (), ("b",), 1))
        self.assertIsNone(paper_least(Web(2, two), (0, 9), (), ("b",), 1))
        self.assertIsNone(paper_least(Web(2, two), (0, 9), ("a",), ("a",), 1))
        self.taken(paper_least(Web(2, two), (1, 9), ("a",), (), 1), ("least", 2, two, (1, 0), ("a",), (), 1))


STAIR = Web(1, grown.stair([(1,)] * 5))


class Some(Papers):
    def test_a_web_without_hearths(self):
        for stores, hearths, gives in (grown.EMPTY_ONE, grown.EMPTY_THREE):
            for by in gives:
                web = Web(stores, hearths)
                self.taken(paper_leads(web, by, (), ()), ("leads", stores, (), by, (), ()))
                least_by = by[:-1] + (0,)
                self.taken(paper_least(web, by, (), (), stores - 1), ("least", stores, (), least_by, (), (), stores - 1))

    def test_rests_of_none_one_and_several(self):
        for one, other in ((("b", "d"), ()), ((), ("b", "d")), (("b", "d"), ("c",)), (("b",), ("c",))):
            by = (max(len(one), len(other)),)
            self.assertNotEqual(rest(STAIR, by, one), rest(STAIR, by, other))
            self.taken(paper_leads(STAIR, by, one, other), ("apart", 1, STAIR.hearths, by, one, other))
        self.taken(paper_burns(STAIR, (2,), ("b", "d"), "a"), ("never", 1, STAIR.hearths, (2,), ("b", "d"), "a"))
        self.taken(paper_goes(STAIR, (2,), ("b", "d"), "d"), ("stays", 1, STAIR.hearths, (2,), ("b", "d"), "d"))
        self.taken(paper_burns(STAIR, (0,), (), "e"), ("never", 1, STAIR.hearths, (0,), (), "e"))
        self.taken(paper_goes(STAIR, (0,), (), "e"), ("goes", 1, STAIR.hearths, (0,), (), "e"))
        self.taken(paper_goes(STAIR, (60,), STAIR.names(), "e"), ("goes", 1, STAIR.hearths, (60,), STAIR.names(), "e"))

    def test_tables_ask_for_nothing_that_is_not_needed(self):
        claim, (row, left, table) = paper_burns(STAIR, (2,), ("c",), "b")
        self.assertEqual((claim[0], row, left), ("never", (), ("c",)))
        for at in range(len(table)):
            self.assertIs(holds(claim, (row, left, table[:at] + table[at + 1:])), False)

    def test_the_same_each_time(self):
        for told in told_webs(20)[::3]:
            for one, other in pieces(list(itertools.product(told.standings, repeat=2)), 4):
                again = Web(told.web.stores, told.web.hearths)
                self.assertEqual(paper_leads(told.web, told.gives, one, other), paper_leads(again, told.gives, one, other))
                for name in told.web.names()[:2]:
                    self.assertEqual(paper_burns(told.web, told.gives, one, name), paper_burns(again, told.gives, one, name))
                    self.assertEqual(paper_goes(told.web, told.gives, one, name), paper_goes(again, told.gives, one, name))
                self.assertEqual(paper_least(told.web, told.gives, one, other, 0),
                                 paper_least(again, told.gives, one, other, 0))

    def test_by_names(self):
        self.assertEqual(paper_leads(other=("b",), one=(), gives=(2,), web=STAIR), paper_leads(STAIR, (2,), (), ("b",)))
        self.assertEqual(paper_burns(name="c", one=(), gives=(2,), web=STAIR), paper_burns(STAIR, (2,), (), "c"))
        self.assertEqual(paper_goes(name="c", one=("c",), gives=(2,), web=STAIR), paper_goes(STAIR, (2,), ("c",), "c"))
        self.assertEqual(paper_least(store=0, other=("b",), one=(), gives=(2,), web=STAIR),
                         paper_least(STAIR, (2,), (), ("b",), 0))


class Wide(Papers):
    """Webs of nine to sixteen hearths by gives by which few burn at once."""

    def setUp(self):
        self.began = time.perf_counter()

    def tearDown(self):
        # Going through all standings would take far longer than this.
        self.assertLess(time.perf_counter() - self.began, 60)

    def rows(self):
        for many in range(9, 17):
            for stores in (1, 2, 3):
                for near, most, times in ((1, 1, 2), (1, 3, 2), (2, 9, 1), (3, 2, 3)):
                    hearths = grown.grown(11 * many + stores, many, stores, most=most, near=near, grounds=0.05)
                    web, gives = Web(stores, hearths), (most * times,) * stores
                    names = sorted(web.names())
                    asked = [(), (names[many % 5],), (names[-1],), (names[2], names[many - 3])]
                    yield web, gives, [row for row in asked if is_standing(web, gives, row)]

    def test_leads_burns_and_goes(self):
        words = []
        for web, gives, standings in self.rows():
            start = (web.stores, web.hearths, gives)
            for one, other in zip(standings, standings[1:] + standings[:1]):
                word = "leads" if leads(web, gives, one, other) else "apart"
                self.taken(paper_leads(web, gives, one, other), (word, *start, one, other))
                words.append(word)
                for name in web.names()[len(one)::5] + one:
                    word = "burns" if name in may_burn(web, gives, one) else "never"
                    self.taken(paper_burns(web, gives, one, name), (word, *start, one, name))
                    words.append(word)
                    word = "stays" if name in rest(web, gives, one) else "goes"
                    self.taken(paper_goes(web, gives, one, name), (word, *start, one, name))
                    words.append(word)
        for word in ("leads", "apart", "burns", "never", "goes", "stays"):
            self.assertGreater(words.count(word), 40, word)

    def test_least(self):
        for web, gives, standings in self.rows():
            for store in range(web.stores):
                one, other = standings[0], standings[-1]
                number = least(web, gives, one, other, store)
                told = paper_least(web, gives, one, other, store)
                if number is None:
                    self.assertIsNone(told)
                else:
                    by = gives[:store] + (number,) + gives[store + 1:]
                    self.taken(told, ("least", web.stores, web.hearths, by, one, other, store))


class Wrong(WrongInputs, unittest.TestCase):
    START = (("web", "web"), ("gives", "gives"))
    FUNCTIONS = (
        (paper_leads, START + (("one", "standing"), ("other", "standing")), ()),
        (paper_burns, START + (("one", "standing"), ("name", "name")), ()),
        (paper_goes, START + (("one", "standing"), ("name", "name")), ()),
        (paper_least, START + (("one", "names"), ("other", "names"), ("store", "store")), ()),
    )


if __name__ == "__main__":
    unittest.main()
