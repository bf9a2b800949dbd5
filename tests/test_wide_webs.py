"""Webs of nine to sixteen hearths: too many for a plain search, so what is told is held against itself, and timed."""

import time
import unittest

import grown
from kindlestair.reaches import alone, reached
from kindlestair.rests import leads, loose, may_burn, rest
from kindlestair.standings import draws, is_standing
from kindlestair.webs import Web

# Seconds for all questions of one test. They take a small part of it; going through all standings takes far more.
SOON = 60


def wide_rows():
    """Rows of a web and gives: few burn at once, many do, all do."""
    rows = []
    for many in range(9, 17):
        for stores in (1, 2, 3):
            for near, most in ((1, 9), (2, 9), (2, 3), (16, 5)):
                hearths = grown.grown(100 * many + stores, many, stores, most=most, near=near, grounds=0.05)
                for by in (most, 2 * most + 1, 4 * most, min(60, 6 * most), 60):
                    rows.append((Web(stores, hearths), (by,) * stores))
    return rows


def some_standings(web, gives):
    """Standings filled from either end of the web, and every second one."""
    names = web.names()
    found = [()]
    for order in (names, names[::-1], names[::2], names[1::2], names[5:] + names[:5]):
        burning = ()
        for name in order:
            more = tuple(sorted(burning + (name,)))
            if is_standing(web, gives, more):
                burning = more
        found.append(burning)
    return found


class Wide(unittest.TestCase):
    def setUp(self):
        self.began = time.perf_counter()

    def tearDown(self):
        self.assertLess(time.perf_counter() - self.began, SOON)

    def test_reached_and_alone(self):
        for web, gives in wide_rows():
            names = web.names()
            for over in ((), (names[3],), tuple(sorted(names[::3]))):
                found, left = reached(web, gives, over=over), alone(web, gives, over=over)
                self.assertLessEqual(set(left), set(found))
                self.assertEqual(found, tuple([name for name in names if name in found]))
                self.assertFalse(set(found) & set(over))

    def test_all_are_reached_where_all_may_burn_at_once(self):
        for many in range(9, 17):
            for stores in (1, 2, 3):
                hearths = grown.grown(many, many, stores, most=3, near=2)
                web, gives = Web(stores, hearths), (60,) * stores
                everything = tuple(sorted(web.names()))
                self.assertTrue(is_standing(web, gives, everything))
                self.assertEqual(reached(web, gives), web.names())
                self.assertEqual(alone(web, gives), web.names())
                self.assertEqual(loose(web, gives, everything), web.names())
                self.assertEqual(rest(web, gives, everything), ())
                self.assertEqual(may_burn(web, gives, ()), web.names())
                self.assertIs(leads(web, gives, (), everything), True)

    def test_rests(self):
        for web, gives in wide_rows()[::3]:
            for standing in some_standings(web, gives):
                left = rest(web, gives, standing)
                self.assertLessEqual(set(left), set(standing))
                self.assertEqual(loose(web, gives, left), ())
                self.assertEqual(rest(web, gives, left), left)
                self.assertIs(leads(web, gives, standing, left), True)
                self.assertIs(leads(web, gives, standing, ()), left == ())
                spare = tuple([many - drawn for many, drawn in zip(gives, draws(web, left))])
                burns = {*left, *reached(web, spare, over=left)}
                self.assertEqual(may_burn(web, gives, standing), tuple([n for n in web.names() if n in burns]))
                self.assertLessEqual(set(standing), burns)

    def test_a_stair_of_sixteen(self):
        web = Web(1, grown.stair([(1,)] * 16))
        self.assertEqual(rest(web, (4,), ("p",)), ("p",))
        self.assertEqual(rest(web, (5,), ("p",)), ())
        self.assertEqual(rest(web, (4,), ("h",)), ())
        self.assertEqual(rest(web, (4,), ("i",)), ("i",))
        self.assertEqual(rest(web, (5,), ("h", "p")), ())
        self.assertEqual(rest(web, (4,), ("h", "p")), ("h", "p"))
        self.assertEqual(rest(web, (4,), ("e", "p")), ("e", "p"))
        self.assertEqual(rest(web, (4,), ("d", "p")), ("p",))
        self.assertEqual(may_burn(web, (2,), ("p",)), ("a", "p"))

    def test_uneven_stairs_of_three_stores(self):
        hungers = [(9, 0, 1), (2, 7, 3), (0, 9, 4), (5, 5, 5), (1, 0, 9), (8, 2, 2), (3, 3, 7), (9, 9, 0)] * 2
        web = Web(3, grown.stair(hungers))
        for by in (9, 14, 19, 24, 30, 40, 60):
            found = reached(web, (by,) * 3)
            self.assertEqual(found, web.names()[:len(found)])
            for standing in some_standings(web, (by,) * 3):
                self.assertEqual(may_burn(web, (by,) * 3, standing), may_burn(web, (by,) * 3, standing))


class ToldAgain(unittest.TestCase):
    def test_the_same_whatever_was_asked_ahead(self):
        rows = [(Web(stores, hearths), gives) for stores, hearths, gives in grown.small_webs(20)] + wide_rows()[::17]
        ask = [
            lambda web, gives: reached(web, gives),
            lambda web, gives: alone(web, gives, over=tuple(sorted(web.names()))[:2]),
            lambda web, gives: [rest(web, gives, standing) for standing in some_standings(web, gives)],
            lambda web, gives: [loose(web, gives, standing) for standing in some_standings(web, gives)],
            lambda web, gives: [may_burn(web, gives, standing) for standing in some_standings(web, gives)],
            lambda web, gives: [leads(web, gives, standing, ()) for standing in some_standings(web, gives)],
        ]
        first = [question(web, gives) for web, gives in rows for question in ask]
        for web, _ in rows:
            reached(web, (60,) * web.stores)
        again = [question(web, gives) for web, gives in reversed(rows) for question in reversed(ask)]
        self.assertEqual(first, again[::-1])
        alike = [question(Web(web.stores, web.hearths), gives) for web, gives in rows for question in ask]
        self.assertEqual(first, alike)


if __name__ == "__main__":
    unittest.main()
