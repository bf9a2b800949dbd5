import itertools
import time
import unittest

import grown
import plain
from kindlestair.leasts import least
from kindlestair.rests import leads
from kindlestair.standings import is_standing
from kindlestair.webs import Web
from wrong import WrongInputs


def all_names(hearths):
    names = sorted(hearth[0] for hearth in hearths)
    return [row for many in range(len(names) + 1) for row in itertools.combinations(names, many)]


def some_pairs(hearths, many):
    pairs = list(itertools.product(all_names(hearths), repeat=2))
    return pairs[::1 + len(pairs) // many]


def put(gives, store, number):
    return gives[:store] + (number,) + gives[store + 1:]


class Plain(unittest.TestCase):
    def alike_to_plain(self, stores, hearths, gives, many):
        """Whether there was one above 0, and one that wasn't there."""
        web = Web(stores, hearths)
        told = set()
        for store in range(stores):
            rows = plain.lots_by_number(hearths, gives, store)
            for one, other in some_pairs(hearths, many):
                number = least(web, gives, one, other, store)
                led = plain.led_by(rows, one, other)
                where = (hearths, gives, one, other, store)
                self.assertEqual(number, led[0] if led else None, where)
                # One less than the least parts them, and each number above it leads, too.
                self.assertEqual(led, list(range(number, 61)) if led else [], where)
                told.add(None if number is None else min(number, 2))
        return told

    def test_written_webs(self):
        told = set()
        for stores, hearths, gives in grown.WRITTEN:
            for by in gives[:1] if stores == 1 else gives:
                told |= self.alike_to_plain(stores, hearths, by, 400)
        self.assertEqual(told, {None, 0, 1, 2})

    def test_grown_webs(self):
        for stores, hearths, gives in grown.small_webs(70)[-70:]:
            self.alike_to_plain(stores, hearths, gives, 120)

    def test_all_pairs_of_small_webs(self):
        for stores, hearths, gives in grown.small_webs(45, largest=4)[-45:]:
            self.alike_to_plain(stores, hearths, gives, 10 ** 6)

    def test_one_less_parts_them_and_each_above_leads(self):
        for stores, hearths, gives in grown.small_webs(45)[::3]:
            web = Web(stores, hearths)
            for at, (one, other) in enumerate(some_pairs(hearths, 20)):
                store = at % stores
                number = least(web, gives, one, other, store)
                for by in range(61):
                    then = put(gives, store, by)
                    both = is_standing(web, then, one) and is_standing(web, then, other)
                    self.assertIs(both and leads(web, then, one, other), number is not None and by >= number)

    def test_whatever_gives_has_in_the_place_of_the_store(self):
        for stores, hearths, gives in grown.small_webs(30)[::2]:
            web = Web(stores, hearths)
            for store in range(stores):
                for one, other in some_pairs(hearths, 15):
                    told = {least(web, put(gives, store, by), one, other, store) for by in (0, 1, 2, 7, 59, 60)}
                    self.assertEqual(len(told), 1, (hearths, gives, one, other, store))


STAIR = Web(1, grown.stair([(1,)] * 8))
TWO = Web(2, (("a", (1, 0), ()), ("b", (0, 2), ("a",)), ("c", (9, 3), ("b",)), ("d", (0, 9), ()), ("e", (4, 0), ("d",))))


class Told(unittest.TestCase):
    def test_a_stair(self):
        for name, number in zip(STAIR.names(), (1, 2, 3, 3, 4, 4, 4, 4)):
            self.assertEqual(least(STAIR, (0,), (), (name,), 0), number, name)
            self.assertEqual(least(STAIR, (60,), (name,), (), 0), number, name)

    def test_the_same_and_both_without_names(self):
        self.assertEqual(least(STAIR, (5,), (), (), 0), 0)
        for names in (("a",), ("h",), ("b", "d"), STAIR.names()):
            self.assertEqual(least(STAIR, (0,), names, names, 0), len(names))
        self.assertEqual(least(Web(3), (0, 1, 60), (), (), 2), 0)
        self.assertEqual(least(Web(1), (0,), (), (), 0), 0)

    def test_a_least_of_0(self):
        self.assertEqual(least(TWO, (1, 60), (), ("a",), 1), 0)
        self.assertEqual(least(TWO, (60, 2), ("a",), (), 1), 0)
        self.assertEqual(least(TWO, (60, 9), (), ("d",), 0), 0)
        self.assertIs(type(least(TWO, (1, 60), (), ("a",), 1)), int)

    def test_what_draws_too_much_of_another_store(self):
        self.assertIsNone(least(TWO, (0, 60), (), ("a",), 1))
        self.assertIsNone(least(TWO, (0, 60), ("a",), (), 1))
        self.assertIsNone(least(TWO, (0, 60), ("a",), ("a",), 1))
        self.assertIsNone(least(TWO, (60, 8), ("d",), ("d",), 0))
        self.assertEqual(least(TWO, (60, 9), ("d",), ("d",), 0), 0)
        self.assertEqual(least(TWO, (1, 60), ("a",), ("a",), 1), 0)

    def test_what_draws_more_of_this_store_than_it_gives(self):
        self.assertEqual(least(TWO, (0, 60), (), ("a",), 0), 1)
        self.assertEqual(least(TWO, (0, 60), ("a", "c", "e"), ("a", "c", "e"), 0), 14)
        self.assertEqual(least(TWO, (0, 60), ("a", "c", "e"), ("a", "c", "e"), 1), None)
        self.assertEqual(least(TWO, (14, 0), ("a", "c", "e"), ("a", "c", "e"), 1), 3)

    def test_none_where_no_number_does(self):
        # By 8 of the second store d never burns, so e never goes out.
        self.assertIsNone(least(TWO, (0, 8), (), ("e",), 0))
        self.assertEqual(least(TWO, (0, 9), (), ("e",), 0), 4)
        self.assertIsNone(least(TWO, (3, 60), (), ("e",), 1))
        self.assertEqual(least(TWO, (4, 60), (), ("e",), 1), 9)

    def test_60_and_more(self):
        # These eight draw 63 together, which no store gives.
        web = Web(1, tuple([(letter, (9,), ()) for letter in "abcdef"]) + (("g", (6,), ()), ("h", (3,), ())))
        self.assertEqual(least(web, (0,), (), tuple("abcdefg"), 0), 60)
        self.assertEqual(least(web, (0,), tuple("abcdefg"), tuple("abcdefg"), 0), 60)
        self.assertIsNone(least(web, (60,), (), tuple("abcdefgh"), 0))
        self.assertIsNone(least(web, (60,), tuple("abcdefgh"), tuple("abcdefgh"), 0))

    def test_names_of_the_web_whatever_they_draw(self):
        self.assertFalse(is_standing(STAIR, (1,), ("a", "b", "c")))
        self.assertEqual(least(STAIR, (1,), ("a", "b", "c"), ("a",), 0), 3)

    def test_by_names(self):
        self.assertEqual(least(store=0, other=("d",), one=(), gives=(0,), web=STAIR), 3)
        self.assertEqual(least(STAIR, (0,), store=0, other=("d",), one=()), 3)


class Wide(unittest.TestCase):
    def test_wide_webs_are_told_soon(self):
        began = time.perf_counter()
        for many in range(9, 17):
            for stores in (1, 2, 3):
                for near, most in ((1, 9), (2, 3), (16, 5)):
                    hearths = grown.grown(7 * many + stores, many, stores, most=most, near=near, grounds=0.05)
                    self.holds_by_leads(Web(stores, hearths), (3 * most,) * stores)
        # Going through all standings would take far longer than this.
        self.assertLess(time.perf_counter() - began, 60)

    def holds_by_leads(self, web, gives):
        names = sorted(web.names())
        rows = [(), (names[0],), (names[-1],), (names[2], names[5]), tuple(names[1:8:3])]
        for at, (one, other) in enumerate(itertools.combinations(rows, 2)):
            store = at % web.stores
            number = least(web, gives, one, other, store)
            self.assertEqual(least(web, gives, other, one, store), number)
            for by in range(61):
                then = put(gives, store, by)
                both = is_standing(web, then, one) and is_standing(web, then, other)
                led = both and leads(web, then, one, other) if by in (number, (number or 61) - 1, 0, 60) else None
                if led is not None:
                    self.assertIs(led, number is not None and by >= number)

    def test_a_long_stair_by_the_promised_steps(self):
        # Where each draws one, ways of up to 2 ** N - 1 steps are gone; one is left alone by one more for it.
        stair = Web(1, grown.stair([(1,)] * 16))
        for steps, name in enumerate(stair.names(), start=1):
            number = least(stair, (0,), (), (name,), 0)
            self.assertGreaterEqual(2 ** (number - 1) - 1, steps - 1)
            self.assertLess(2 ** (number - 2) - 1 if number > 1 else -1, steps - 1)


class Wrong(WrongInputs, unittest.TestCase):
    FUNCTIONS = (
        (least, (("web", "web"), ("gives", "gives"), ("one", "names"), ("other", "names"), ("store", "store")), ()),
    )


if __name__ == "__main__":
    unittest.main()
