import itertools
import unittest

import grown
import plain
import tables
from houses import refused
from kindlestair.errors import NoWeb, TooMany
from kindlestair.rests import rest
from kindlestair.small import fewest, lot, rests
from kindlestair.switches import gone
from kindlestair.webs import Web
from wrong import NOT_GIVES, NOT_NAMES, WEBS, WrongInputs


def rows_of_eight(count):
    """Rows of stores, hearths and gives of webs of eight hearths."""
    rows = []
    for number in range(count):
        stores, most = 1 + number % 3, (1, 2, 3, 9)[number % 4]
        hearths = grown.grown(300 + number, 8, stores, most=most, near=1 + number % 4, grounds=0.1)
        rows.append((stores, hearths, grown.some_gives(number, stores, most * (2 + number % 4))))
    return rows


WEBS_TRIED = grown.small_webs(90, largest=8) + rows_of_eight(24)


def groups(hearths, gives):
    """All standings in groups of those that lead to one another, each group rising."""
    found = {}
    for standing, at in plain.lots(hearths, gives).items():
        found.setdefault(at, []).append(standing)
    return [tuple(sorted(group)) for group in found.values()]


def in_all(group):
    return plain.rising(frozenset.intersection(*[frozenset(standing) for standing in group]))


class Plain(unittest.TestCase):
    def test_rests(self):
        for stores, hearths, gives in WEBS_TRIED:
            told = rests(Web(stores, hearths), gives)
            self.assertEqual(told, tuple(sorted([in_all(group) for group in groups(hearths, gives)])))
            self.assertIsInstance(told, tuple)
            self.assertTrue(all(here < there for here, there in zip(told, told[1:])))

    def test_lots(self):
        for stores, hearths, gives in WEBS_TRIED:
            web = Web(stores, hearths)
            for group in groups(hearths, gives):
                for standing in {group[0], group[-1], in_all(group)}:
                    told = lot(web, gives, standing)
                    self.assertEqual(told, group, (hearths, gives, standing))
                    self.assertIsInstance(told, tuple)

    def test_all_lots_of_a_web(self):
        for stores, hearths, gives in grown.small_webs(20, largest=5)[::3]:
            for group in groups(hearths, gives):
                for standing in group:
                    self.assertEqual(lot(Web(stores, hearths), gives, standing), group)

    def test_fewest(self):
        none = longest = 0
        for stores, hearths, gives in WEBS_TRIED:
            web = Web(stores, hearths)
            pairs = list(itertools.product(plain.standings(hearths, gives), repeat=2))
            for one, other in pairs[::1 + len(pairs) // 25]:
                row, found = fewest(web, gives, one, other), tables.row_between(hearths, gives, one, other)
                if found is None:
                    self.assertIsNone(row)
                    none += 1
                else:
                    self.assertIsInstance(row, tuple)
                    self.assertEqual(len(row), len(found))
                    self.assertEqual(gone(web, gives, one, row), other)
                    self.assertEqual(fewest(web, gives, one, other), row)
                    longest = max(longest, len(row))
        self.assertGreater(none, 100)
        self.assertGreater(longest, 12)

    def test_from_a_standing_to_itself(self):
        for stores, hearths, gives in WEBS_TRIED[::4]:
            for standing in plain.standings(hearths, gives)[::3]:
                self.assertEqual(fewest(Web(stores, hearths), gives, standing, standing), ())


STAIR = Web(1, grown.stair([(1,)] * 4))


class Told(unittest.TestCase):
    def test_a_stair(self):
        self.assertEqual(rests(STAIR, (0,)), ((),))
        self.assertEqual(rests(STAIR, (1,)), ((), ("b",), ("c",), ("d",)))
        self.assertEqual(rests(STAIR, (2,)), ((), ("b", "d"), ("c",), ("d",)))
        self.assertEqual(rests(STAIR, (60,)), ((),))
        self.assertEqual(lot(STAIR, (1,), ()), ((), ("a",)))
        self.assertEqual(lot(STAIR, (1,), ("d",)), (("d",),))
        self.assertEqual(lot(STAIR, (2,), ("c",)), (("a", "c"), ("c",), ("c", "d")))
        self.assertEqual(len(lot(STAIR, (4,), ())), 16)
        self.assertEqual(fewest(STAIR, (2,), (), ("b",)), (("kindle", "a"), ("kindle", "b"), ("out", "a")))
        self.assertIsNone(fewest(STAIR, (1,), (), ("b",)))

    def test_rising_by_names_not_by_the_web_s_order(self):
        web = Web(1, (("c", (1,), ()), ("a", (1,), ()), ("b", (1,), ())))
        self.assertEqual(lot(web, (60,), ()),
                         ((), ("a",), ("a", "b"), ("a", "b", "c"), ("a", "c"), ("b",), ("b", "c"), ("c",)))

    def test_a_web_without_hearths(self):
        for stores, hearths, gives in (grown.EMPTY_ONE, grown.EMPTY_THREE):
            for by in gives:
                web = Web(stores, hearths)
                self.assertEqual((rests(web, by), lot(web, by, ()), fewest(web, by, (), ())), (((),), ((),), ()))

    def test_by_names(self):
        self.assertEqual(rests(gives=(1,), web=STAIR), rests(STAIR, (1,)))
        self.assertEqual(lot(standing=("c",), gives=(2,), web=STAIR), lot(STAIR, (2,), ("c",)))
        self.assertEqual(fewest(other=("a",), one=(), gives=(2,), web=STAIR), (("kindle", "a"),))

    def test_each_of_the_rests_is_its_own(self):
        for stores, hearths, gives in WEBS_TRIED[::5]:
            web = Web(stores, hearths)
            for left in rests(web, gives):
                self.assertEqual(rest(web, gives, left), left)


class Many(unittest.TestCase):
    ASKED = ((rests, 0), (lot, 1), (fewest, 2))

    def test_eight_and_nine(self):
        for many in range(17):
            web = Web(1, grown.stair([(1,)] * many))
            for ask, standings in self.ASKED:
                if many <= 8:
                    self.assertIsInstance(ask(web, (1,), *[()] * standings), tuple)
                else:
                    refused(self, lambda: ask(web, (1,), *[()] * standings), TooMany, many=many)

    def test_behind_no_web_and_ahead_of_all_else(self):
        wide = Web(1, grown.stair([(1,)] * 9))
        for ask, standings in self.ASKED:
            for number, gives in enumerate(NOT_GIVES):
                names = NOT_NAMES[number % len(NOT_NAMES)]
                refused(self, lambda: ask(wide, gives, *[()] * standings), TooMany, many=9)
                refused(self, lambda: ask(wide, (1,), *[names] * standings), TooMany, many=9)
                refused(self, lambda: ask(wide, gives, *[names] * standings), TooMany, many=9)
            for thing in WEBS:
                refused(self, lambda: ask(thing, None, *[None] * standings), NoWeb, place=None)
            refused(self, lambda: ask(wide, (1,), *[("a", "b")] * standings), TooMany, many=9)


class Wrong(WrongInputs, unittest.TestCase):
    FUNCTIONS = (
        (rests, (("web", "web"), ("gives", "gives")), ()),
        (lot, (("web", "web"), ("gives", "gives"), ("standing", "standing")), ()),
        (fewest, (("web", "web"), ("gives", "gives"), ("one", "standing"), ("other", "standing")), ()),
    )


if __name__ == "__main__":
    unittest.main()
