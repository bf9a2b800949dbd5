"""Each deed of a House, done and refused."""

import unittest

from houses import HEARTHS, house, refused, told
from kindlestair.errors import Burns, Cold, Dark, NoDeed, NoGives, NoWeb, Wanting
from kindlestair.houses import House
from kindlestair.webs import Web
from samples import chain, odd_things


class Deeds(unittest.TestCase):
    def becomes(self, a_house, deed, *, burning=None, gives=None, hearths=None):
        """The deed is done and changes nothing but what is told."""
        web, by, ahead, log = a_house.web(), a_house.gives(), a_house.burning(), a_house.log()
        self.assertIsNone(a_house.do(deed))
        self.assertEqual(a_house.burning(), ahead if burning is None else burning)
        self.assertEqual(a_house.gives(), by if gives is None else gives)
        self.assertEqual(a_house.web(), web if hearths is None else Web(web.stores, hearths))
        self.assertEqual(a_house.log(), log + (deed,))

    def refuses(self, a_house, deed, refusal, **fields):
        """The deed is refused and the house stays as it was."""
        before = told(a_house)
        refused(self, lambda: a_house.do(deed), refusal, **fields)
        refused(self, lambda: a_house.do(deed=deed), refusal, **fields)
        refused(self, lambda: a_house.do_all((deed,)), refusal, **fields)
        self.assertEqual(told(a_house), before)


class AtFirst(unittest.TestCase):
    def test_nothing_burns(self):
        web = Web(2, HEARTHS)
        made = House(web, (6, 8))
        self.assertEqual(made.web(), web)
        self.assertEqual(made.gives(), (6, 8))
        self.assertEqual(made.burning(), ())
        self.assertEqual(made.spare(), (6, 8))
        self.assertEqual(made.log(), ())
        self.assertEqual(made.rest(), ())
        self.assertEqual(made.may_burn(), ("b", "a", "d", "c"))

    def test_by_names(self):
        self.assertEqual(House(gives=(6, 8), web=Web(2, HEARTHS)), house())
        with self.assertRaises(TypeError):
            House(Web(2, HEARTHS))
        with self.assertRaises(TypeError):
            House(Web(2, HEARTHS), (6, 8), ())

    def test_a_web_without_hearths(self):
        made = House(Web(3), (0, 0, 0))
        self.assertEqual((made.burning(), made.spare(), made.rest(), made.may_burn()), ((), (0, 0, 0), (), ()))

    def test_wrong_ones(self):
        refused(self, lambda: House(None, None), NoWeb, place=None)
        refused(self, lambda: House(Web(2, HEARTHS), (6,)), NoGives)

    def test_two_houses_of_one_web_are_not_in_each_other_s_way(self):
        web = Web(2, HEARTHS)
        one, other = House(web, (6, 8)), House(web, (6, 8))
        one.do_all((("kindle", "b"), ("build", ("e", (1, 1), ())), ("give", 0, 60)))
        self.assertEqual(told(other), told(house()))
        self.assertEqual(web, Web(2, HEARTHS))


class Switches(Deeds):
    def test_kindle(self):
        made = house()
        self.becomes(made, ("kindle", "b"), burning=("b",))
        self.becomes(made, ("kindle", "a"), burning=("a", "b"))
        self.becomes(made, ("kindle", "d"), burning=("a", "b", "d"))
        self.becomes(made, ("kindle", "c"), burning=("a", "b", "c", "d"))

    def test_kindle_refused(self):
        made = house((4, 5), (("kindle", "b"), ("kindle", "a")))
        self.refuses(made, ("kindle", "b"), Burns, name="b")
        self.refuses(made, ("kindle", "a"), Burns, name="a")
        self.refuses(made, ("kindle", "d"), Wanting, store=0)
        self.refuses(made, ("kindle", "c"), Wanting, store=1)
        self.refuses(house(), ("kindle", "a"), Cold, name="a")
        self.refuses(house((0, 0)), ("kindle", "a"), Cold, name="a")
        self.refuses(house((0, 0)), ("kindle", "b"), Wanting, store=0)
        self.refuses(house((1, 1)), ("kindle", "b"), Wanting, store=1)

    def test_out(self):
        made = house(deeds=(("kindle", "b"), ("kindle", "a")))
        self.becomes(made, ("out", "a"), burning=("b",))
        self.becomes(made, ("out", "b"), burning=())

    def test_out_refused(self):
        made = house(deeds=(("kindle", "b"), ("kindle", "a"), ("out", "b")))
        self.refuses(made, ("out", "b"), Dark, name="b")
        self.refuses(made, ("out", "d"), Dark, name="d")
        self.refuses(made, ("out", "a"), Cold, name="a")


class Gusts(Deeds):
    def test_over_whatever(self):
        made = house(deeds=(("kindle", "b"), ("kindle", "a"), ("out", "b")))
        self.becomes(made, ("gust", "a"), burning=())
        made = house(deeds=(("kindle", "b"), ("kindle", "a")))
        self.becomes(made, ("gust", "b"), burning=("a",))

    def test_of_one_that_is_dark(self):
        for name in ("a", "b", "c", "d"):
            self.refuses(house(), ("gust", name), Dark, name=name)
        made = house(deeds=(("kindle", "b"),))
        self.refuses(made, ("gust", "a"), Dark, name="a")
        made.do(("gust", "b"))
        self.refuses(made, ("gust", "b"), Dark, name="b")


class Sparks(Deeds):
    def test_over_whatever(self):
        made = house()
        self.becomes(made, ("spark", "d"), burning=("d",))
        self.becomes(made, ("spark", "a"), burning=("a", "d"))
        self.becomes(made, ("spark", "b"), burning=("a", "b", "d"))

    def test_of_one_that_burns(self):
        made = house((3, 4), (("spark", "a"),))
        self.refuses(made, ("spark", "a"), Burns, name="a")
        self.refuses(house((1, 2), (("kindle", "b"),)), ("spark", "b"), Burns, name="b")

    def test_too_little_of_the_first_store_and_of_a_later_one(self):
        self.refuses(house((2, 60)), ("spark", "a"), Wanting, store=0)
        self.refuses(house((1, 1)), ("spark", "d"), Wanting, store=0)
        self.refuses(house((2, 1)), ("spark", "d"), Wanting, store=1)
        self.refuses(house((60, 3)), ("spark", "c"), Wanting, store=1)
        self.refuses(house((4, 60), (("spark", "a"),)), ("spark", "d"), Wanting, store=0)
        three = (("a", (1, 1, 2), ()), ("b", (1, 1, 1), ("a",)))
        self.refuses(house((2, 2, 2), (("spark", "a"),), three), ("spark", "b"), Wanting, store=2)
        self.refuses(house((2, 1, 2), (("spark", "a"),), three), ("spark", "b"), Wanting, store=1)
        self.becomes(house((2, 2, 3), (("spark", "a"),), three), ("spark", "b"), burning=("a", "b"))

    def test_just_what_is_left(self):
        self.becomes(house((3, 0)), ("spark", "a"), burning=("a",))
        self.becomes(house((5, 2), (("spark", "a"),)), ("spark", "d"), burning=("a", "d"))


class Gives(Deeds):
    def test_more_and_less(self):
        made = house(deeds=(("kindle", "b"), ("kindle", "c")))
        self.assertEqual(made.spare(), (5, 2))
        self.becomes(made, ("give", 0, 7), gives=(7, 8))
        self.becomes(made, ("give", 1, 7), gives=(7, 7))
        self.becomes(made, ("give", 1, 7), gives=(7, 7))
        self.assertEqual(made.spare(), (6, 1))

    def test_just_what_is_drawn_and_one_below_it(self):
        made = house(deeds=(("kindle", "b"), ("kindle", "c")))
        self.becomes(made, ("give", 1, 6), gives=(6, 6))
        self.refuses(made, ("give", 1, 5), Wanting, store=1)
        self.becomes(made, ("give", 0, 1), gives=(1, 6))
        self.refuses(made, ("give", 0, 0), Wanting, store=0)
        self.assertEqual(made.spare(), (0, 0))

    def test_0_60_61_and_below_0(self):
        made = house()
        self.becomes(made, ("give", 0, 0), gives=(0, 8))
        self.becomes(made, ("give", 1, 0), gives=(0, 0))
        self.becomes(made, ("give", 0, 60), gives=(60, 0))
        self.becomes(made, ("give", 1, 60), gives=(60, 60))
        for many in (61, -1, 62, 10 ** 30, -10 ** 30):
            self.refuses(made, ("give", 0, many), NoDeed)
            self.refuses(made, ("give", 1, many), NoDeed)

    def test_truths_and_stores_that_are_not(self):
        made = house(deeds=(("kindle", "b"),))
        for many in odd_things() + ["0", "a", (0,), [], b"1"]:
            if isinstance(many, bool) or not isinstance(many, int) or not 0 <= many <= 60:
                self.refuses(made, ("give", 0, many), NoDeed)
        for store in odd_things() + [2, 3, 60, "0", "a", (0,), b"1"]:
            self.refuses(made, ("give", store, 5), NoDeed)
            self.refuses(made, ("give", store, 0), NoDeed)
            self.refuses(made, ("give", store, None), NoDeed)

    def test_each_web_s_own_stores(self):
        for stores in (1, 2, 3):
            made = house((1,) * stores, hearths=())
            for store in range(5):
                if store < stores:
                    self.becomes(made, ("give", store, 9), gives=(9,) * (store + 1) + (1,) * (stores - store - 1))
                else:
                    self.refuses(made, ("give", store, 9), NoDeed)


class Builds(Deeds):
    def test_a_good_hearth_dark_at_first(self):
        made = house(deeds=(("kindle", "b"),))
        hearth = ("e", (0, 1), ("a", "c"))
        self.becomes(made, ("build", hearth), hearths=HEARTHS + (hearth,))
        self.refuses(made, ("out", "e"), Dark, name="e")
        self.becomes(made, ("spark", "e"), burning=("b", "e"))

    def test_in_a_house_without_hearths(self):
        made = house((1,), hearths=())
        self.becomes(made, ("build", ("a", (1,), ())), hearths=(("a", (1,), ()),))
        self.becomes(made, ("kindle", "a"), burning=("a",))

    def test_what_is_no_hearth(self):
        made = house(deeds=(("kindle", "b"),))
        wrong = [("b", (1, 1), ()), ("e", (1,), ()), ("e", (0, 0), ()), ("e", (1, 10), ()), ("e", (1, 1), ("x",)),
                 ("e", (1, 1), ("a", "a")), ("e", (1, 1), ("e",)), ("E", (1, 1), ()), ["e", (1, 1), ()], ("e", (1, 1)),
                 ("e", (1, True), ()), "e", 0, 1, HEARTHS, ("e", (1, 1), (), ())]
        for thing in odd_things() + wrong:
            self.refuses(made, ("build", thing), NoWeb, place=4)
            self.refuses(house((0, 0, 0), hearths=()), ("build", thing), NoWeb, place=0)

    def test_where_sixteen_stand(self):
        made = house((3,), hearths=chain(15))
        self.becomes(made, ("build", ("z", (1,), ())), hearths=chain(15) + (("z", (1,), ()),))
        for thing in [("y", (1,), ()), ("a", (1,), ())] + odd_things():
            self.refuses(made, ("build", thing), NoWeb, place=None)

    def test_parts_more_or_fewer(self):
        for made in (house(), house((3,), hearths=chain(16))):
            hearth = ("z", (1,) * made.web().stores, ())
            for deed in (("build",), ("build", hearth, hearth), ("build", hearth, None), ("build", *hearth),
                         ("build", None, None)):
                self.refuses(made, deed, NoDeed)


class NoDeeds(Deeds):
    def test_no_tuple(self):
        for thing in odd_things() + [["kindle", "b"], "kindle", "kindle b", {"kindle": "b"}, 0, 1, ()]:
            self.refuses(house(), thing, NoDeed)

    def test_another_word(self):
        things = odd_things() + ["Kindle", "kindle ", "", "do", "back", "switch", "give ", "builds", "hearth", 0, 1]
        for word in things + [("kindle",), ["kindle"], b"kindle"]:
            for behind in ((), ("b",), (0, 1), (("e", (1, 1), ()),)):
                self.refuses(house(), (word, *behind), NoDeed)

    def test_parts_more_or_fewer(self):
        made = house((60, 60), (("kindle", "b"),))
        for word, name in (("kindle", "c"), ("out", "b"), ("gust", "b"), ("spark", "a")):
            for deed in ((word,), (word, name, name), (word, name, None), (word, (name,)), (word, name, ()),
                         ((word, name),)):
                self.refuses(made, deed, NoDeed)
        for deed in (("give",), ("give", 0), ("give", 0, 60, 60), ("give", (0, 60)), ("give", 0, 60, None)):
            self.refuses(made, deed, NoDeed)

    def test_names_of_no_hearth_of_the_house(self):
        made = house(deeds=(("kindle", "b"),))
        for word in ("kindle", "out", "gust", "spark"):
            for thing in odd_things() + ["e", "x", "nobody", "ab", "B", "b ", ("b",), ["b"], b"b", 0, 1]:
                self.refuses(made, (word, thing), NoDeed)

    def test_a_hearth_taken_back_is_none_of_the_house(self):
        made = house()
        made.do(("build", ("e", (1, 1), ())))
        made.back()
        for word in ("kindle", "out", "gust", "spark"):
            self.refuses(made, (word, "e"), NoDeed)


if __name__ == "__main__":
    unittest.main()
