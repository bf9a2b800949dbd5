import itertools
import time
import unittest

import grown
import plain
from kindlestair.reaches import reached
from kindlestair.rests import leads, may_burn, rest
from kindlestair.standings import is_standing
from kindlestair.switches import gone
from kindlestair.ways import row_down, row_for, row_to
from kindlestair.webs import Web


class Plain(unittest.TestCase):
    def test_row_down_goes_to_the_rest(self):
        for stores, hearths, gives in grown.small_webs(80):
            web = Web(stores, hearths)
            loose_of = plain.all_loose(hearths, gives)
            for standing in loose_of:
                row = row_down(web, gives, standing)
                self.assertIsInstance(row, tuple)
                self.assertEqual({gone(web, gives, standing, row)}, plain.rests(loose_of, standing))

    def test_row_to_goes_there_just_where_some_row_does(self):
        for stores, hearths, gives in grown.small_webs(80):
            web = Web(stores, hearths)
            lots = plain.lots(hearths, gives)
            pairs = list(itertools.product(lots, repeat=2))
            for one, other in pairs[::1 + len(pairs) // 150]:
                row = row_to(web, gives, one, other)
                if lots[one] == lots[other]:
                    self.assertIsInstance(row, tuple)
                    self.assertEqual(gone(web, gives, one, row), other)
                else:
                    self.assertIsNone(row)

    def test_row_for_ends_where_it_burns_just_where_some_row_does(self):
        for stores, hearths, gives in grown.small_webs(60):
            web = Web(stores, hearths)
            burning_in = plain.all_may_burn(hearths, gives)
            for standing in list(burning_in)[::1 + len(burning_in) // 40]:
                for name in web.names():
                    row = row_for(web, gives, standing, name)
                    if name in burning_in[standing]:
                        self.assertIsInstance(row, tuple)
                        self.assertIn(name, gone(web, gives, standing, row))
                    else:
                        self.assertIsNone(row)

    def test_from_a_standing_to_itself(self):
        for stores, hearths, gives in grown.small_webs(30):
            web = Web(stores, hearths)
            for standing in plain.standings(hearths, gives)[::3]:
                row = row_to(web, gives, standing, standing)
                self.assertEqual(gone(web, gives, standing, row), standing)
                for name in standing:
                    self.assertIn(name, gone(web, gives, standing, row_for(web, gives, standing, name)))


STAIR = Web(1, grown.stair([(1,)] * 4))


class Told(unittest.TestCase):
    def test_rows_of_which_there_is_one_shortest(self):
        self.assertEqual(row_down(STAIR, (2,), ()), ())
        self.assertEqual(row_down(STAIR, (2,), ("a",)), (("out", "a"),))
        self.assertEqual(row_down(STAIR, (2,), ("b",)), (("kindle", "a"), ("out", "b"), ("out", "a")))
        self.assertEqual(row_to(STAIR, (2,), (), ("a",)), (("kindle", "a"),))
        self.assertEqual(row_to(STAIR, (2,), ("a",), ("a", "b")), (("kindle", "b"),))
        self.assertEqual(row_for(STAIR, (1,), (), "a"), (("kindle", "a"),))

    def test_none_where_it_does_not_lead_there(self):
        self.assertIsNone(row_to(STAIR, (1,), (), ("b",)))
        self.assertIsNone(row_to(STAIR, (1,), ("b",), ()))
        self.assertIsNone(row_to(STAIR, (1,), ("b",), ("c",)))
        self.assertIsNone(row_for(STAIR, (1,), (), "b"))
        self.assertIsNone(row_for(STAIR, (0,), (), "a"))
        self.assertIsNone(row_for(STAIR, (1,), ("c",), "a"))

    def test_a_rest_has_no_way_down(self):
        self.assertEqual(gone(STAIR, (1,), ("b",), row_down(STAIR, (1,), ("b",))), ("b",))

    def test_over_what_stays_burning(self):
        web = Web(1, (("g", (9,), ()), ("a", (1,), ("g",)), ("b", (1,), ("a",)), ("c", (1,), ("b",))))
        self.assertEqual(rest(web, (3,), ("a", "c")), ("a",))
        self.assertEqual(gone(web, (3,), ("a", "c"), row_down(web, (3,), ("a", "c"))), ("a",))
        self.assertIn("c", gone(web, (3,), ("a",), row_for(web, (3,), ("a",), "c")))

    def test_a_way_that_passes_ones_that_burn(self):
        web = Web(1, grown.stair([(1,), (1,), (2,), (1,), (1,)]))
        for standing in plain.standings(web.hearths, (4,)):
            self.assertEqual(gone(web, (4,), standing, row_down(web, (4,), standing)), rest(web, (4,), standing))

    def test_a_web_without_hearths(self):
        self.assertEqual(row_down(Web(2), (0, 60), ()), ())
        self.assertEqual(row_to(Web(2), (0, 60), (), ()), ())

    def test_by_names(self):
        self.assertEqual(row_down(standing=("a",), gives=(2,), web=STAIR), (("out", "a"),))
        self.assertEqual(row_to(other=("a",), one=(), gives=(2,), web=STAIR), (("kindle", "a"),))
        self.assertEqual(row_for(name="a", standing=(), gives=(2,), web=STAIR), (("kindle", "a"),))


def wide_rows():
    """Rows of a web, gives by which few burn at once, and some standings."""
    rows = []
    for many in range(9, 17):
        for stores in (1, 2, 3):
            for near, most, times in ((1, 1, 3), (1, 3, 4), (2, 9, 3), (3, 5, 4), (2, 2, 5)):
                hearths = grown.grown(10 * many + stores, many, stores, most=most, near=near, grounds=0.05)
                web, gives = Web(stores, hearths), (most * times,) * stores
                singles = [(name,) for name in sorted(web.names())]
                pairs = list(itertools.combinations(sorted(web.names()), 2))
                asked = [()] + singles[many % 4::4] + pairs[stores::25]
                rows.append((web, gives, [row for row in asked if is_standing(web, gives, row)]))
    return rows


class Wide(unittest.TestCase):
    def setUp(self):
        self.began = time.perf_counter()

    def tearDown(self):
        # Going through all standings would take far longer than this.
        self.assertLess(time.perf_counter() - self.began, 60)

    def test_rows_down(self):
        for web, gives, standings in wide_rows():
            for standing in standings:
                row = row_down(web, gives, standing)
                self.assertEqual(gone(web, gives, standing, row), rest(web, gives, standing))
                self.assertEqual(row_down(web, gives, standing), row)

    def test_rows_to(self):
        for web, gives, standings in wide_rows():
            for one, other in zip(standings, standings[1:] + standings[:1]):
                row = row_to(web, gives, one, other)
                self.assertIs(row is not None, leads(web, gives, one, other))
                if row is not None:
                    self.assertEqual(gone(web, gives, one, row), other)
                self.assertEqual(row_to(web, gives, one, other), row)

    def test_rows_for(self):
        for web, gives, standings in wide_rows():
            for at, standing in enumerate(standings):
                burns = may_burn(web, gives, standing)
                for name in web.names()[at % 4::4]:
                    row = row_for(web, gives, standing, name)
                    self.assertIs(row is not None, name in burns)
                    if row is not None:
                        self.assertIn(name, gone(web, gives, standing, row))
                    self.assertEqual(row_for(web, gives, standing, name), row)

    def test_the_longest_stairs(self):
        for many in (15, 16):
            web = Web(1, grown.stair([(1,)] * many))
            for by in (4, 5, 60):
                name = web.names()[-1]
                row = row_for(web, (by,), (), name)
                self.assertIs(row is not None, name in reached(web, (by,)))
                if row is not None:
                    self.assertIn(name, gone(web, (by,), (), row))

    def test_all_burn_at_once(self):
        web = Web(3, grown.grown(1, 16, 3, most=3, near=2))
        everything = tuple(sorted(web.names()))
        row = row_to(web, (60,) * 3, (), everything)
        self.assertEqual(gone(web, (60,) * 3, (), row), everything)
        self.assertEqual(gone(web, (60,) * 3, everything, row_down(web, (60,) * 3, everything)), ())


if __name__ == "__main__":
    unittest.main()
