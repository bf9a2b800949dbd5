"""Rows of deeds: do_all, back, log and replayed."""

import unittest

from houses import HEARTHS, house, lived, refused, state, told
from kindlestair.errors import Burns, Cold, Dark, NoBack, NoDeed, NoLog, NoWeb, Wanting
from kindlestair.houses import House, replayed
from kindlestair.webs import Web
from samples import odd_things

HEARTH = ("e", (1, 1), ("a",))
GOOD = (("kindle", "b"), ("kindle", "a"), ("give", 1, 9), ("build", HEARTH), ("gust", "b"), ("spark", "d"), ("kindle", "e"))
# Each can't be done behind any of the first deeds of GOOD.
BAD = (
    (("kindle", "nobody"), NoDeed, {}), (("out", "c"), Dark, {"name": "c"}), (("gust", "c"), Dark, {"name": "c"}),
    (("give", 0, 61), NoDeed, {}), (("give", 2, 1), NoDeed, {}), (("build",), NoDeed, {}), (None, NoDeed, {}),
    (["kindle", "c"], NoDeed, {}), (("kindle", "c", "c"), NoDeed, {}),
)
NOT_TUPLES = [thing for thing in odd_things() + [0, 1, "kindle", [("kindle", "b")], {("kindle", "b"): 1}]
              if not isinstance(thing, tuple)]


class DoAll(unittest.TestCase):
    def test_all_are_done(self):
        made, one_by_one = house(), house()
        self.assertIsNone(made.do_all(GOOD))
        for deed in GOOD:
            one_by_one.do(deed)
        self.assertEqual(told(made), told(one_by_one))
        self.assertEqual(made.log(), GOOD)
        self.assertEqual(made.burning(), ("a", "d", "e"))

    def test_none_is_done_where_the_first_a_middle_or_the_last_one_is_refused(self):
        for deed, refusal, fields in BAD:
            for place in range(len(GOOD) + 1):
                for ahead in ((), (("spark", "a"), ("gust", "a"))):
                    made = house(deeds=ahead)
                    before = told(made)
                    row = GOOD[:place] + (deed,) + GOOD[place:]
                    refused(self, lambda: made.do_all(row), refusal, **fields)
                    refused(self, lambda: made.do_all(deeds=row), refusal, **fields)
                    self.assertEqual(told(made), before)
                    made.do_all(GOOD)
                    self.assertEqual(made.log(), ahead + GOOD)

    def test_the_first_that_is_refused_is_told(self):
        made = house((4, 4))
        refused(self, lambda: made.do_all((("kindle", "b"), ("kindle", "b"), ("out", "a"), None)), Burns, name="b")
        refused(self, lambda: made.do_all((("kindle", "b"), ("kindle", "d"), None)), Cold, name="d")
        refused(self, lambda: made.do_all((("kindle", "b"), ("spark", "c"), None)), Wanting, store=1)
        refused(self, lambda: made.do_all((("build", HEARTH), ("build", HEARTH), None)), NoWeb, place=5)
        refused(self, lambda: made.do_all((("spark", "a"), ("give", 0, 2), ("give", 0, 61))), Wanting, store=0)
        self.assertEqual(told(made), told(house((4, 4))))

    def test_none_to_do(self):
        made = house(deeds=GOOD)
        before = told(made)
        self.assertIsNone(made.do_all(()))
        self.assertEqual(told(made), before)

    def test_no_tuple(self):
        made = house(deeds=GOOD)
        before = told(made)
        for thing in NOT_TUPLES:
            refused(self, lambda: made.do_all(thing), NoDeed)
        for thing in (("kindle", "c"), ("kindle",), (("kindle", "c"), "c")):
            refused(self, lambda: made.do_all(thing), NoDeed)
        self.assertEqual(told(made), before)

    def test_what_a_deed_needs_of_one_ahead(self):
        made = house((6, 8))
        made.do_all((("build", ("e", (1, 1), ())), ("kindle", "e"), ("build", ("f", (1, 1), ("e",))), ("kindle", "f")))
        self.assertEqual(made.burning(), ("e", "f"))
        made.do_all((("give", 0, 60), ("give", 1, 60), ("spark", "d"), ("spark", "c")))
        self.assertEqual(made.burning(), ("c", "d", "e", "f"))
        refused(self, lambda: house().do_all((("kindle", "e"), ("build", ("e", (1, 1), ())))), NoDeed)
        refused(self, lambda: house((0, 0)).do_all((("kindle", "b"), ("give", 0, 60))), Wanting, store=0)


class Back(unittest.TestCase):
    def test_each_deed_of_each_kind(self):
        row = (("kindle", "b"), ("kindle", "a"), ("out", "a"), ("spark", "d"), ("gust", "b"), ("give", 0, 60),
               ("give", 1, 2), ("build", HEARTH), ("give", 1, 60), ("spark", "e"), ("gust", "d"))
        made = house()
        rows = []
        for deed in row:
            rows.append(told(made))
            made.do(deed)
        self.assertEqual(made.log(), row)
        for at in reversed(range(len(row))):
            self.assertIsNone(made.back())
            self.assertEqual(told(made), rows[at])
            self.assertEqual(made.log(), row[:at])
        refused(self, made.back, NoBack)
        self.assertEqual(told(made), told(house()))

    def test_at_first(self):
        made = house()
        for _ in range(3):
            refused(self, made.back, NoBack)
        self.assertEqual(told(made), told(house()))
        refused(self, House(Web(1), (0,)).back, NoBack)

    def test_behind_a_refused_deed(self):
        made = house(deeds=(("kindle", "b"), ("kindle", "a")))
        for deed in (("kindle", "a"), ("out", "d"), None, ("give", 0, 0), ("build", None)):
            with self.assertRaises((ValueError, RuntimeError)):
                made.do(deed)
        made.back()
        self.assertEqual(told(made), told(house(deeds=(("kindle", "b"),))))
        with self.assertRaises(Burns):
            made.do_all((("kindle", "a"), ("kindle", "a")))
        made.back()
        self.assertEqual(told(made), told(house()))
        with self.assertRaises(NoDeed):
            made.do(None)
        refused(self, made.back, NoBack)

    def test_behind_do_all_each_by_itself(self):
        made = house(deeds=(("spark", "c"), ("gust", "c")))
        made.do_all(GOOD)
        for at in reversed(range(len(GOOD))):
            made.back()
            self.assertEqual(told(made), told(house(deeds=(("spark", "c"), ("gust", "c")) + GOOD[:at])))
        made.do_all(())
        made.back()
        self.assertEqual(made.log(), (("spark", "c"),))

    def test_then_other_deeds(self):
        made = house(deeds=GOOD)
        for _ in range(3):
            made.back()
        made.do(("kindle", "c"))
        self.assertEqual(made.log(), GOOD[:4] + (("kindle", "c"),))
        self.assertEqual(told(made), told(house(deeds=GOOD[:4] + (("kindle", "c"),))))
        made.back()
        made.back()
        made.do(("build", ("f", (1, 1), ())))
        self.assertEqual(made.log(), GOOD[:3] + (("build", ("f", (1, 1), ())),))
        self.assertEqual(made.web().names(), ("b", "a", "d", "c", "f"))

    def test_the_same_deed_twice(self):
        made = house(deeds=(("give", 0, 9), ("give", 0, 9)))
        made.back()
        self.assertEqual((made.gives(), made.log()), ((9, 8), (("give", 0, 9),)))
        made.back()
        self.assertEqual((made.gives(), made.log()), ((6, 8), ()))

    def test_lives(self):
        for number in range(60):
            made, ahead = lived(number)
            for before in reversed(ahead):
                made.back()
                self.assertEqual(told(made), before)
            refused(self, made.back, NoBack)

    def test_takes_no_argument(self):
        with self.assertRaises(TypeError):
            house(deeds=GOOD).back(1)


class Log(unittest.TestCase):
    def test_a_tuple_that_stays_as_it_was_told(self):
        made = house()
        first = made.log()
        made.do(("kindle", "b"))
        second = made.log()
        made.do(("kindle", "a"))
        made.back()
        self.assertEqual((first, second, made.log()), ((), (("kindle", "b"),), (("kindle", "b"),)))
        self.assertIsInstance(made.log(), tuple)


class Replayed(unittest.TestCase):
    def test_the_house_of_a_log_is_alike_the_one_that_made_it(self):
        for number in range(60):
            made, ahead = lived(number)
            web, gives = ahead[0][:2] if ahead else state(made)[:2]
            again = replayed(web, gives, made.log())
            self.assertIsInstance(again, House)
            self.assertEqual(again, made)
            self.assertEqual(told(again), told(made))
            self.assertEqual(again.log(), made.log())
            for _ in made.log():
                made.back()
                again.back()
                self.assertEqual(told(again), told(made))

    def test_none_done(self):
        self.assertEqual(replayed(Web(2, HEARTHS), (6, 8), ()), house())
        self.assertEqual(replayed(deeds=(), gives=(6, 8), web=Web(2, HEARTHS)), house())

    def test_a_deed_refused_at_each_place(self):
        web = Web(2, HEARTHS)
        for deed, _, _ in BAD:
            for place in range(len(GOOD) + 1):
                row = GOOD[:place] + (deed,) + GOOD[place:]
                refused(self, lambda: replayed(web, (6, 8), row), NoLog, place=place)
                refused(self, lambda: replayed(web, (6, 8), row + (None,)), NoLog, place=place)
        self.assertEqual(web, Web(2, HEARTHS))

    def test_each_refusal_of_a_deed(self):
        rows = (
            (("kindle", "b"), ("kindle", "b")), (("kindle", "b"), ("out", "c")), (("kindle", "b"), ("kindle", "d")),
            (("kindle", "b"), ("give", 0, 0)), (("kindle", "b"), ("build", None)), (("kindle", "b"), ("back",)),
            (("kindle", "b"), ("spark", "b")), (("give", 1, 1), ("spark", "b")), (("kindle", "b"), ("gust", "c")),
        )
        for row in rows:
            refused(self, lambda: replayed(Web(2, HEARTHS), (6, 8), row), NoLog, place=1)
        sixteen = tuple([("build", (letter, (1, 0), ())) for letter in "efghijklmnopq"])
        refused(self, lambda: replayed(Web(2, HEARTHS), (6, 8), sixteen), NoLog, place=12)

    def test_a_deed_itself_is_no_tuple_of_deeds(self):
        refused(self, lambda: replayed(Web(2, HEARTHS), (6, 8), ("kindle", "b")), NoLog, place=0)

    def test_no_tuple(self):
        for thing in NOT_TUPLES:
            refused(self, lambda: replayed(Web(2, HEARTHS), (6, 8), thing), NoLog, place=None)


if __name__ == "__main__":
    unittest.main()
