import itertools
import unittest

import grown
import plain
from kindlestair.errors import NoGives, NoStanding
from kindlestair.standings import draws, is_standing
from kindlestair.webs import Web
from samples import odd_things

TWO = Web(2, (("b", (1, 2), ()), ("a", (3, 0), ("b",)), ("c", (0, 4), ())))
THREE = Web(3, (("b", (1, 0, 9), ()), ("a", (2, 5, 0), ("b",))))


class Draws(unittest.TestCase):
    def test_of_each_store_together(self):
        self.assertEqual(draws(TWO, ()), (0, 0))
        self.assertEqual(draws(TWO, ("a",)), (3, 0))
        self.assertEqual(draws(TWO, ("a", "b")), (4, 2))
        self.assertEqual(draws(TWO, ("a", "b", "c")), (4, 6))
        self.assertEqual(draws(THREE, ("a", "b")), (3, 5, 9))
        self.assertEqual(draws(Web(1), ()), (0,))
        self.assertEqual(draws(Web(3), ()), (0, 0, 0))

    def test_by_names(self):
        self.assertEqual(draws(web=TWO, names=("b", "c")), (1, 6))
        self.assertEqual(draws(names=("b", "c"), web=TWO), (1, 6))

    def test_all_names_of_small_webs(self):
        for stores, hearths, _ in grown.WRITTEN:
            web = Web(stores, hearths)
            for names in plain.standings(hearths, (200,) * stores):
                self.assertEqual(draws(web, names), plain.drawn(hearths, names, stores))
                self.assertIsInstance(draws(web, names), tuple)

    def test_more_than_any_store_gives(self):
        hearths = grown.stair([(9,)] * 16)
        self.assertEqual(draws(Web(1, hearths), tuple(grown.LETTERS)), (144,))


class IsStanding(unittest.TestCase):
    def test_just_what_is_given_and_one_above_it(self):
        self.assertIs(is_standing(TWO, (4, 6), ("a", "b", "c")), True)
        self.assertIs(is_standing(TWO, (3, 6), ("a", "b", "c")), False)
        self.assertIs(is_standing(TWO, (4, 5), ("a", "b", "c")), False)
        self.assertIs(is_standing(TWO, (60, 60), ("a", "b", "c")), True)
        self.assertIs(is_standing(TWO, (0, 0), ()), True)
        self.assertIs(is_standing(TWO, (3, 0), ("a",)), True)
        self.assertIs(is_standing(TWO, (0, 4), ("c",)), True)
        self.assertIs(is_standing(TWO, (0, 3), ("c",)), False)

    def test_feeders_need_not_burn(self):
        self.assertIs(is_standing(TWO, (3, 0), ("a",)), True)

    def test_all_rows_of_names(self):
        for stores, hearths, gives in grown.WRITTEN:
            web = Web(stores, hearths)
            for by in gives:
                found = set(plain.standings(hearths, by))
                for names in plain.standings(hearths, (200,) * stores):
                    self.assertIs(is_standing(web, by, names), names in found)

    def test_what_is_no_rising_tuple_of_names(self):
        for thing in (("b", "a"), ("a", "a"), ("a", "b", "b"), ("c", "a", "b"), ("a", "d"), ("d",), ("",), ["a"], "a",
                      ["a", "b"], ("a", 1), (("a",),), ("a", ("b",)), {"a": 1}, {"a"}, "ab", ("A",), ("a", None)):
            self.assertIs(is_standing(TWO, (60, 60), thing), False)

    def test_things_of_any_kind(self):
        for thing in odd_things():
            self.assertIs(is_standing(TWO, (60, 60), thing), False)
            self.assertIs(is_standing(TWO, (60, 60), (thing,)), False)
            self.assertIs(is_standing(TWO, (60, 60), ("a", thing)), False)

    def test_by_names(self):
        self.assertIs(is_standing(thing=("a",), gives=(3, 0), web=TWO), True)
        self.assertIs(is_standing(TWO, thing=("a",), gives=(2, 0)), False)


class Gives(unittest.TestCase):
    def test_from_0_to_60(self):
        for gives in itertools.product((0, 1, 59, 60), repeat=2):
            self.assertIs(is_standing(TWO, gives, ()), True)
        for many in (-1, 61, -60, 10 ** 30):
            for gives in ((many, 0), (0, many), (many, many)):
                with self.assertRaises(NoGives):
                    is_standing(TWO, gives, ())

    def test_for_each_store_one(self):
        for stores in (1, 2, 3):
            for many in range(5):
                if many == stores:
                    self.assertIs(is_standing(Web(stores), (1,) * many, ()), True)
                else:
                    with self.assertRaises(NoGives):
                        is_standing(Web(stores), (1,) * many, ())

    def test_truths_and_lists_are_none(self):
        for gives in ((True, 1), (1, False), [1, 1], "11", ((1,), 1), (1, "1"), None, {0: 1, 1: 1}):
            with self.assertRaises(NoGives) as caught:
                is_standing(TWO, gives, ())
            self.assertEqual(vars(caught.exception), {})


class NoNames(unittest.TestCase):
    def test_what_is_no_rising_tuple_of_names(self):
        for names in (("b", "a"), ("a", "a"), ("a", "d"), ["a"], "a", None, ("a", 1), (("a",),), [], {}, 0):
            with self.assertRaises(NoStanding) as caught:
                draws(TWO, names)
            self.assertIsNone(caught.exception.store)

    def test_texts_rise_as_python_has_them(self):
        web = Web(1, (("b", (1,), ()), ("ba", (1,), ()), ("az", (1,), ())))
        self.assertEqual(draws(web, ("az", "b", "ba")), (3,))
        for names in (("b", "az"), ("ba", "b"), ("b", "ba", "az")):
            with self.assertRaises(NoStanding):
                draws(web, names)


if __name__ == "__main__":
    unittest.main()
