import itertools
import unittest

import grown
import plain
from kindlestair.reaches import alone, reached
from kindlestair.webs import Web


def rows_of_names(hearths, most):
    names = sorted(hearth[0] for hearth in hearths)
    return [row for many in range(most + 1) for row in itertools.combinations(names, many)]


class Plain(unittest.TestCase):
    def alike_to_plain(self, stores, hearths, gives, over):
        web = Web(stores, hearths)
        found, left = reached(web, gives, over=over), alone(web, gives, over=over)
        self.assertEqual(found, plain.reached(hearths, gives, over), (hearths, gives, over))
        self.assertEqual(left, plain.alone(hearths, gives, over), (hearths, gives, over))
        self.assertIsInstance(found, tuple)
        self.assertIsInstance(left, tuple)

    def test_over_none_one_and_several_in_written_webs(self):
        for stores, hearths, gives in grown.WRITTEN:
            for by in gives:
                for over in rows_of_names(hearths, 2)[:18]:
                    self.alike_to_plain(stores, hearths, by, over)

    def test_over_all_rows_of_names_in_one_web(self):
        for hearths, gives in ((grown.TWO[1], (2, 1)), (grown.THREE[1], (3, 1, 3))):
            for over in rows_of_names(hearths, len(hearths)):
                self.alike_to_plain(len(gives), hearths, gives, over)

    def test_grown_webs(self):
        for number, (stores, hearths, gives) in enumerate(grown.small_webs(250)):
            rows = rows_of_names(hearths, 3)
            for over in {(), rows[number % len(rows)], rows[-1 - number % len(rows)]}:
                self.alike_to_plain(stores, hearths, gives, over)


class Told(unittest.TestCase):
    def test_a_stair(self):
        web = Web(1, grown.STAIR[1])
        self.assertEqual(reached(web, (0,)), ())
        self.assertEqual(reached(web, (1,)), ("a",))
        self.assertEqual(reached(web, (2,)), ("a", "b", "c"))
        self.assertEqual(reached(web, (3,)), ("a", "b", "c", "d", "e", "f", "g"))
        self.assertEqual(alone(web, (1,)), ("a",))
        self.assertEqual(alone(web, (2,)), ("a", "b"))
        self.assertEqual(alone(web, (3,)), ("a", "b", "c", "d"))
        self.assertEqual(alone(web, (7,)), ("a", "b", "c", "d", "e", "f", "g"))

    def test_over_a_source(self):
        web = Web(1, grown.STAIR[1])
        self.assertEqual(reached(web, (0,), over=("c",)), ())
        self.assertEqual(reached(web, (1,), over=("c",)), ("a", "d"))
        self.assertEqual(reached(web, (2,), over=("c",)), ("a", "b", "d", "e", "f"))
        self.assertEqual(alone(web, (2,), over=("c",)), ("a", "b", "d", "e"))
        self.assertEqual(reached(web, (1,), over=("b", "d", "f")), ("a", "c", "e", "g"))

    def test_sources_are_not_told_themselves(self):
        web = Web(1, grown.STAIR[1])
        everything = web.names()
        self.assertEqual(reached(web, (60,), over=everything), ())
        self.assertEqual(alone(web, (60,), over=everything), ())
        self.assertEqual(reached(web, (60,), over=("a", "g")), ("b", "c", "d", "e", "f"))

    def test_sources_may_draw_more_than_is_given(self):
        web = Web(2, (("a", (9, 9), ()), ("b", (9, 9), ()), ("c", (1, 0), ("a",)), ("d", (0, 1), ("b", "c"))))
        self.assertEqual(reached(web, (0, 1), over=("a", "b")), ("d",))
        self.assertEqual(reached(web, (1, 0), over=("a", "b")), ("c",))
        self.assertEqual(reached(web, (1, 1), over=("a",)), ("c", "d"))
        self.assertEqual(alone(web, (1, 1), over=("a",)), ("c",) + ("d",))

    def test_in_the_web_s_order(self):
        web = Web(1, (("c", (1,), ()), ("a", (1,), ("c",)), ("b", (1,), ("a",))))
        self.assertEqual(reached(web, (2,)), ("c", "a", "b"))
        self.assertEqual(alone(web, (60,)), ("c", "a", "b"))

    def test_just_enough_and_one_less(self):
        web = Web(1, (("a", (4,), ()), ("b", (5,), ("a",))))
        self.assertEqual(reached(web, (9,)), ("a", "b"))
        self.assertEqual(reached(web, (8,)), ("a",))
        self.assertEqual(reached(web, (4,)), ("a",))
        self.assertEqual(reached(web, (3,)), ())

    def test_each_store_counts(self):
        web = Web(2, (("a", (4, 0), ()), ("b", (0, 5), ("a",))))
        self.assertEqual(reached(web, (4, 5)), ("a", "b"))
        self.assertEqual(reached(web, (3, 60)), ())
        self.assertEqual(reached(web, (60, 4)), ("a",))
        self.assertEqual(alone(web, (4, 5)), ("a", "b"))

    def test_one_feeder_is_enough(self):
        web = Web(1, (("a", (9,), ()), ("b", (1,), ()), ("c", (1,), ("a", "b"))))
        self.assertEqual(reached(web, (2,)), ("b", "c"))

    def test_a_web_without_hearths(self):
        for stores, hearths, gives in (grown.EMPTY_ONE, grown.EMPTY_THREE):
            for by in gives:
                self.assertEqual(reached(Web(stores, hearths), by), ())
                self.assertEqual(alone(Web(stores, hearths), by, over=()), ())

    def test_reached_but_not_to_be_left_alone(self):
        web = Web(1, (("a", (1,), ()), ("b", (1,), ("a",)), ("c", (1,), ("b",))))
        self.assertEqual(reached(web, (2,)), ("a", "b", "c"))
        self.assertEqual(alone(web, (2,)), ("a", "b"))


class Arguments(unittest.TestCase):
    def test_by_names(self):
        web = Web(1, grown.STAIR[1])
        for ask in (reached, alone):
            told = ask(web, (2,), over=("c",))
            self.assertEqual(ask(web=web, gives=(2,), over=("c",)), told)
            self.assertEqual(ask(over=("c",), gives=(2,), web=web), told)
            self.assertEqual(ask(web, over=("c",), gives=(2,)), told)
            self.assertEqual(ask(web, (2,)), ask(web, (2,), over=()))

    def test_over_by_its_name_alone(self):
        for ask in (reached, alone):
            with self.assertRaises(TypeError):
                ask(Web(1, grown.STAIR[1]), (2,), ("c",))


if __name__ == "__main__":
    unittest.main()
