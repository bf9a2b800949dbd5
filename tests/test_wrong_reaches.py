"""Wrong inputs of kindlestair.standings, kindlestair.reaches and kindlestair.rests."""

import unittest

from kindlestair.errors import NoStanding
from kindlestair.reaches import alone, reached
from kindlestair.rests import leads, loose, may_burn, rest
from kindlestair.standings import draws, is_standing
from kindlestair.webs import Web
from wrong import WrongInputs

WEB, GIVES = ("web", "web"), ("gives", "gives")


class Wrong(WrongInputs, unittest.TestCase):
    FUNCTIONS = (
        (draws, (WEB, ("names", "names")), ()),
        (is_standing, (WEB, GIVES, ("thing", "thing")), ()),
        (reached, (WEB, GIVES, ("over", "names")), ("over",)),
        (alone, (WEB, GIVES, ("over", "names")), ("over",)),
        (loose, (WEB, GIVES, ("standing", "standing")), ()),
        (rest, (WEB, GIVES, ("standing", "standing")), ()),
        (leads, (WEB, GIVES, ("one", "standing"), ("other", "standing")), ()),
        (may_burn, (WEB, GIVES, ("standing", "standing")), ()),
    )


class FirstStore(unittest.TestCase):
    WEB = Web(3, (("a", (1, 2, 3), ()), ("b", (1, 2, 3), ())))

    def test_the_first_store_of_which_too_much_is_drawn(self):
        for gives, store in (((1, 3, 5), 0), ((2, 3, 5), 1), ((2, 4, 5), 2), ((1, 4, 6), 0), ((0, 0, 0), 0),
                             ((60, 0, 0), 1), ((2, 3, 6), 1)):
            for ask in (loose, rest, may_burn):
                with self.assertRaises(NoStanding) as caught:
                    ask(self.WEB, gives, ("a", "b"))
                self.assertEqual(caught.exception.store, store)
                self.assertNotIsInstance(caught.exception.store, bool)
            for one, other in ((("a", "b"), ()), ((), ("a", "b")), (("a", "b"), ("b", "a"))):
                with self.assertRaises(NoStanding) as caught:
                    leads(self.WEB, gives, one, other)
                self.assertEqual(caught.exception.store, store)

    def test_just_what_is_given(self):
        for ask in (loose, rest, may_burn):
            self.assertIsInstance(ask(self.WEB, (2, 4, 6), ("a", "b")), tuple)

    def test_not_rising_ahead_of_too_much(self):
        with self.assertRaises(NoStanding) as caught:
            rest(self.WEB, (0, 0, 0), ("b", "a"))
        self.assertIsNone(caught.exception.store)

    def test_over_may_draw_too_much(self):
        for ask in (reached, alone):
            self.assertEqual(ask(self.WEB, (0, 0, 0), over=("a", "b")), ())


if __name__ == "__main__":
    unittest.main()
