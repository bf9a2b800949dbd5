"""Wrong inputs of kindlestair.houses, one alone and several at once."""

import unittest

from houses import house, refused, told
from kindlestair.errors import NoDeed, NoLog
from kindlestair.houses import House, replayed
from kindlestair.webs import Web
from wrong import GIVES, HEARTHS, ROWS, WEB, WrongInputs

PLACES = (("web", "web"), ("gives", "gives"))


class Wrong(WrongInputs, unittest.TestCase):
    FUNCTIONS = (
        (House, PLACES, ()),
        (replayed, PLACES + (("deeds", "deeds"),), ()),
    )


class Deeds(unittest.TestCase):
    def test_things_of_any_kind_leave_the_house_as_it_was(self):
        made = house(GIVES, (("kindle", "b"), ("spark", "d")), HEARTHS)
        before = told(made)
        for thing in ROWS:
            refused(self, lambda: made.do(thing), NoDeed)
            refused(self, lambda: made.do_all(thing), NoDeed)
            refused(self, lambda: made.do_all((thing,)), NoDeed)
            refused(self, lambda: made.do_all((("out", "b"), thing)), NoDeed)
            refused(self, lambda: replayed(WEB, GIVES, (thing,)), NoLog, place=0)
        self.assertEqual(told(made), before)

    def test_what_is_handed_in_is_not_changed(self):
        web = Web(2, HEARTHS)
        deeds = (("kindle", "b"), ("build", ("e", (1, 1), ("b",))), ("give", 0, 60))
        kept = repr((web.hearths, deeds))
        made = replayed(web, GIVES, deeds)
        made.do_all((("spark", "e"), ("gust", "b")))
        self.assertEqual(repr((web.hearths, deeds)), kept)
        self.assertEqual(web, Web(2, HEARTHS))
        for thing in (["kindle", "b"], {"kindle": ["b"]}, ("kindle", ["b"]), ("build", ["e", [1, 1], []])):
            shown = repr(thing)
            with self.assertRaises(ValueError):
                made.do(thing)
            self.assertEqual(repr(thing), shown)

    def test_do_and_do_all_take_one_argument(self):
        made = house()
        for ask in (made.do, made.do_all):
            for arguments in ((), ((), ()), (("kindle", "b"), ("kindle", "b"))):
                with self.assertRaises(TypeError):
                    ask(*arguments)


if __name__ == "__main__":
    unittest.main()
