import time
import unittest

import grown
import plain
from kindlestair.gusts import freeing, sparks
from kindlestair.rests import rest
from kindlestair.standings import is_standing
from kindlestair.webs import Web
from test_wide_webs import some_standings, wide_rows
from wrong import WrongInputs


class Plain(unittest.TestCase):
    def alike_to_plain(self, stores, hearths, gives, every):
        """How many are told of freeing and of sparks in all."""
        web = Web(stores, hearths)
        many = [0, 0]
        for standing in plain.standings(hearths, gives)[::every]:
            out, lit = freeing(web, gives, standing), sparks(web, gives, standing)
            where = (hearths, gives, standing)
            self.assertIsInstance(out, tuple)
            self.assertIsInstance(lit, tuple)
            self.assertEqual(out, plain.freeing(hearths, gives, standing), where)
            self.assertEqual(lit, plain.sparks(hearths, gives, standing), where)
            stuck = rest(web, gives, standing) != ()
            many[0] += len(out) * stuck
            many[1] += len(lit) * stuck
        return many

    def test_written_webs(self):
        rows = [self.alike_to_plain(*row, 1) for row in grown.small_webs(0) if len(row[1]) < 7]
        self.assertGreater(sum([out for out, _ in rows]), 30)
        self.assertGreater(sum([lit for _, lit in rows]), 30)

    def test_webs_of_seven(self):
        for row in grown.small_webs(0):
            if len(row[1]) == 7:
                self.alike_to_plain(*row, 5)

    def test_grown_webs(self):
        for row in grown.small_webs(120)[-120:]:
            self.alike_to_plain(*row, 4)

    def test_what_is_free_already(self):
        for stores, hearths, gives in grown.small_webs(40):
            web = Web(stores, hearths)
            self.assertEqual(freeing(web, gives, ()), ())
            for standing in plain.standings(hearths, gives)[::4]:
                if rest(web, gives, standing) == ():
                    self.assertEqual(freeing(web, gives, standing), plain.freeing(hearths, gives, standing))


STAIR = Web(1, grown.stair([(1,)] * 6))


class Told(unittest.TestCase):
    def test_gusts(self):
        self.assertEqual(freeing(STAIR, (1,), ("b",)), ("b",))
        self.assertEqual(freeing(STAIR, (1,), ("a",)), ("a",))
        # Behind the gust of c there is enough to kindle a; behind that of b there isn't for a and b.
        self.assertEqual(freeing(STAIR, (2,), ("b", "c")), ("c",))
        self.assertEqual(freeing(STAIR, (2,), ("d", "f")), ())
        self.assertEqual(freeing(STAIR, (3,), ("d", "f")), ("f",))

    def test_sparks(self):
        # Over b that is sparked c goes out, and then there is enough for a beside b.
        self.assertEqual(rest(STAIR, (2,), ("c",)), ("c",))
        self.assertEqual(sparks(STAIR, (2,), ("c",)), ("b",))
        self.assertEqual(rest(STAIR, (3,), ("e", "f")), ("e",))
        self.assertEqual(sparks(STAIR, (3,), ("e", "f")), ("c", "d"))
        web = Web(1, (("a", (2,), ()), ("b", (1,), ("a",)), ("c", (1,), ("b",))))
        self.assertEqual(rest(web, (2,), ("c",)), ("c",))
        self.assertEqual(sparks(web, (2,), ("c",)), ())

    def test_a_spark_of_what_is_left_frees_only_where_the_next_one_goes_out(self):
        far = Web(1, (("z", (9,), ()), ("a", (1,), ("z",)), ("b", (1,), ("a",))))
        for by, told in ((9, ()), (10, ("a",)), (11, ("z", "a"))):
            self.assertEqual(sparks(far, (by,), ("b",)), told)

    def test_sparks_of_a_free_standing(self):
        web = Web(2, (("g", (1, 2), ()), ("a", (1, 0), ("g",)), ("c", (1, 0), ("a",))))
        self.assertEqual(rest(web, (2, 2), ("c",)), ("c",))
        self.assertEqual(sparks(web, (2, 2), ("c",)), ("a",))
        self.assertEqual(rest(web, (2, 2), ("a",)), ())
        self.assertEqual(sparks(web, (2, 2), ("a",)), ("g", "c"))
        # From what is free already a spark may lead to what never goes out.
        self.assertEqual(sparks(web, (2, 2), ()), ("g", "a"))

    def test_draws_more_than_is_left(self):
        web = Web(2, (("a", (3, 1), ()), ("b", (1, 1), ()), ("c", (0, 4), ("a",))))
        self.assertEqual(sparks(web, (3, 4), ()), ("a", "b"))
        self.assertEqual(sparks(web, (2, 4), ()), ("b",))
        self.assertEqual(sparks(web, (3, 0), ()), ())
        self.assertEqual(sparks(web, (60, 5), ()), ("a", "b", "c"))
        self.assertEqual(sparks(web, (3, 4), ("b",)), ())
        self.assertEqual(sparks(web, (4, 4), ("b",)), ("a",))
        self.assertEqual(sparks(web, (3, 5), ("b",)), ("c",))
        self.assertEqual(sparks(web, (4, 5), ("b",)), ("a", "c"))

    def test_in_the_web_s_order(self):
        web = Web(1, (("c", (1,), ()), ("a", (1,), ()), ("b", (1,), ())))
        self.assertEqual(freeing(web, (60,), ("a", "b", "c")), ("c", "a", "b"))
        self.assertEqual(sparks(web, (60,), ()), ("c", "a", "b"))

    def test_nothing_burns_or_all_do(self):
        self.assertEqual(freeing(STAIR, (60,), ()), ())
        self.assertEqual(sparks(STAIR, (60,), STAIR.names()), ())
        self.assertEqual(sparks(STAIR, (0,), ()), ())
        for stores, hearths, gives in (grown.EMPTY_ONE, grown.EMPTY_THREE):
            for by in gives:
                self.assertEqual(freeing(Web(stores, hearths), by, ()), ())
                self.assertEqual(sparks(Web(stores, hearths), by, ()), ())

    def test_by_names(self):
        for ask in (freeing, sparks):
            self.assertEqual(ask(standing=("b",), gives=(2,), web=STAIR), ask(STAIR, (2,), ("b",)))


class Wide(unittest.TestCase):
    def test_wide_webs_are_told_soon(self):
        began = time.perf_counter()
        for web, gives in wide_rows()[::4]:
            for standing in some_standings(web, gives)[::2]:
                self.held_against_rests(web, gives, standing)
        # Going through all standings would take far longer than this.
        self.assertLess(time.perf_counter() - began, 60)

    def held_against_rests(self, web, gives, standing):
        out, lit = [], []
        for name in web.names():
            then = tuple(sorted(set(standing) ^ {name}))
            if is_standing(web, gives, then) and rest(web, gives, then) == ():
                (out if name in standing else lit).append(name)
        self.assertEqual(freeing(web, gives, standing), tuple(out))
        self.assertEqual(sparks(web, gives, standing), tuple(lit))


class Wrong(WrongInputs, unittest.TestCase):
    FUNCTIONS = (
        (freeing, (("web", "web"), ("gives", "gives"), ("standing", "standing")), ()),
        (sparks, (("web", "web"), ("gives", "gives"), ("standing", "standing")), ()),
    )


if __name__ == "__main__":
    unittest.main()
