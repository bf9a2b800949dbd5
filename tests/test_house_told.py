"""What a House tells: the same as the functions asked with its web, its gives and what burns, whatever came ahead."""

import unittest

import grown
from houses import HEARTHS, house, lived, state
from kindlestair.houses import House
from kindlestair.rests import may_burn, rest
from kindlestair.standings import draws, is_standing
from kindlestair.webs import Web
from samples import AlikeToAll, odd_things


class Told(unittest.TestCase):
    def test_held_against_the_functions(self):
        burned = 0
        for number in range(120):
            made, _ = lived(number)
            web, gives, burning = state(made)
            self.assertIsInstance(web, Web)
            self.assertTrue(is_standing(web, gives, burning))
            self.assertEqual(made.spare(), tuple([by - drawn for by, drawn in zip(gives, draws(web, burning))]))
            self.assertEqual(made.rest(), rest(web, gives, burning))
            self.assertEqual(made.may_burn(), may_burn(web, gives, burning))
            self.assertEqual(len(made), len(burning))
            self.assertIs(bool(made), burning != ())
            self.assertEqual(str(made), " ".join(burning) or "-")
            self.assertEqual(repr(made), f"House({len(web)}, {' '.join(burning) or '-'})")
            for row in (gives, burning, made.spare(), made.rest(), made.may_burn(), made.log()):
                self.assertIsInstance(row, tuple)
            burned += len(made)
        self.assertGreater(burned, 60)

    def test_whatever_came_ahead(self):
        """Another house of the same web and gives, in which the same burns by sparks alone, tells the same."""
        for number in range(80):
            made, _ = lived(number)
            web, gives, burning = state(made)
            other = House(Web(web.stores, web.hearths), gives)
            other.do_all(tuple([("spark", name) for name in reversed(burning)]))
            self.assertEqual(made, other)
            self.assertEqual(other, made)
            for ask in (House.web, House.gives, House.burning, House.spare, House.rest, House.may_burn, len, str, repr):
                self.assertEqual(ask(made), ask(other))

    def test_asking_changes_nothing(self):
        made = house(deeds=(("kindle", "b"), ("spark", "d")))
        first = [made.rest(), made.may_burn(), made.spare(), str(made), repr(made), len(made), made.log()]
        again = [made.rest(), made.may_burn(), made.spare(), str(made), repr(made), len(made), made.log()]
        self.assertEqual(first, again)
        self.assertEqual(made.log(), (("kindle", "b"), ("spark", "d")))


class Texts(unittest.TestCase):
    def test_nothing_burns(self):
        made = house()
        self.assertEqual((str(made), repr(made), len(made), bool(made)), ("-", "House(4, -)", 0, False))
        empty = House(Web(1), (0,))
        self.assertEqual((str(empty), repr(empty), len(empty), bool(empty)), ("-", "House(0, -)", 0, False))

    def test_some_burn(self):
        made = house(deeds=(("kindle", "b"),))
        self.assertEqual((str(made), repr(made), len(made), bool(made)), ("b", "House(4, b)", 1, True))
        made.do_all((("kindle", "a"), ("build", ("e", (1, 0), ())), ("kindle", "c")))
        self.assertEqual((str(made), repr(made), len(made), bool(made)), ("a b c", "House(5, a b c)", 3, True))

    def test_behind_a_gust_of_the_last_one(self):
        made = house(deeds=(("kindle", "b"), ("gust", "b")))
        self.assertEqual((str(made), repr(made), len(made), bool(made)), ("-", "House(4, -)", 0, False))


class Likeness(unittest.TestCase):
    def test_alike_by_other_deeds(self):
        pairs = (
            ((("kindle", "b"), ("kindle", "a"), ("out", "a")), (("spark", "b"),)),
            ((("give", 0, 9), ("give", 0, 6)), ()),
            ((("spark", "a"), ("gust", "a")), ()),
            ((("kindle", "b"), ("kindle", "c")), (("kindle", "c"), ("kindle", "b"))),
        )
        for one, other in pairs:
            self.assertTrue(house(deeds=one) == house(deeds=other))
            self.assertFalse(house(deeds=one) != house(deeds=other))
        built = house(deeds=(("build", ("e", (1, 1), ("a",))),))
        self.assertEqual(built, house(hearths=HEARTHS + (("e", (1, 1), ("a",)),)))
        built.back()
        self.assertEqual(built, house())

    def test_not_alike(self):
        rows = [
            house(), house((6, 9)), house((7, 8)), house(hearths=HEARTHS[:3]), house(deeds=(("kindle", "b"),)),
            house(deeds=(("kindle", "c"),)), house(deeds=(("kindle", "c"), ("kindle", "b"))),
            house((6, 9), (("kindle", "b"),)), house((6,), hearths=()), house((6, 8), hearths=()),
            house(hearths=(("b", (1, 2), ()), ("a", (3, 1), ("b",)), ("d", (2, 2), ("a",)), ("c", (0, 4), ()))),
            house(hearths=(HEARTHS[3],) + HEARTHS[:3]),
        ]
        for at, one in enumerate(rows):
            for where, other in enumerate(rows):
                self.assertIs(one == other, at == where)
                self.assertIs(one != other, at != where)

    def test_houses_and_other_things_never_are(self):
        for made in (house(), house(deeds=(("kindle", "b"),)), House(Web(1), (0,))):
            things = odd_things() + [made.web(), made.gives(), made.burning(), str(made), repr(made), made.log(),
                                     len(made), House, AlikeToAll()]
            for thing in things:
                if type(thing).__name__ in ("AlikeToAll", "Unhashable"):
                    self.assertIs(made.__eq__(thing), False)
                    continue
                self.assertIs(made == thing, False)
                self.assertIs(thing == made, False)
                self.assertIs(made != thing, True)


class Methods(unittest.TestCase):
    def test_those_that_tell_take_no_argument(self):
        made = house()
        for ask in (made.web, made.gives, made.burning, made.spare, made.rest, made.may_burn, made.log):
            with self.assertRaises(TypeError):
                ask(None)

    def test_they_stand_in_the_class_itself(self):
        for word in ("do", "do_all", "back", "web", "gives", "burning", "spare", "rest", "may_burn", "log", "__len__",
                     "__eq__", "__str__", "__repr__"):
            self.assertIn(word, vars(House))

    def test_a_wide_house(self):
        made = House(Web(3, grown.grown(5, 16, 3)), (20, 20, 20))
        web, gives, burning = state(made)
        self.assertEqual(made.may_burn(), may_burn(web, gives, burning))
        self.assertEqual(repr(made), "House(16, -)")


if __name__ == "__main__":
    unittest.main()
