import itertools
import unittest

import grown
import plain
from kindlestair.rests import leads, loose, may_burn, rest
from kindlestair.webs import Web


class Plain(unittest.TestCase):
    def test_loose_rest_and_may_burn_of_all_standings(self):
        for stores, hearths, gives in grown.small_webs(110):
            web = Web(stores, hearths)
            loose_of = plain.all_loose(hearths, gives)
            burning_in = plain.all_may_burn(hearths, gives)
            for standing in loose_of:
                where = (hearths, gives, standing)
                self.assertEqual(loose(web, gives, standing), loose_of[standing], where)
                self.assertEqual({rest(web, gives, standing)}, plain.rests(loose_of, standing), where)
                self.assertEqual(may_burn(web, gives, standing), burning_in[standing], where)

    def test_leads_between_all_standings(self):
        for stores, hearths, gives in grown.small_webs(60, largest=5):
            web = Web(stores, hearths)
            lots = plain.lots(hearths, gives)
            pairs = list(itertools.product(lots, repeat=2))
            for one, other in pairs[::1 + len(pairs) // 300]:
                self.assertIs(leads(web, gives, one, other), lots[one] == lots[other], (hearths, gives, one, other))

    def test_leads_in_webs_of_seven(self):
        for stores, hearths, gives in grown.small_webs(0):
            web = Web(stores, hearths)
            lots = plain.lots(hearths, gives)
            for at, one in enumerate(lots):
                for other in list(lots)[at % 5::17]:
                    self.assertIs(leads(web, gives, one, other), lots[one] == lots[other], (hearths, gives, one, other))

    def test_all_of_the_rest_burns_in_each_standing_that_it_leads_to(self):
        for stores, hearths, gives in grown.small_webs(40):
            web = Web(stores, hearths)
            for standing in plain.standings(hearths, gives)[::3]:
                in_all = frozenset.intersection(*plain.led_to(hearths, gives, standing))
                self.assertEqual(rest(web, gives, standing), plain.rising(in_all))

    def test_a_loose_one_leads_to_the_standing_without_it(self):
        for stores, hearths, gives in grown.small_webs(40):
            web = Web(stores, hearths)
            for standing in plain.standings(hearths, gives)[::3]:
                for name in loose(web, gives, standing):
                    then = tuple([other for other in standing if other != name])
                    self.assertIs(leads(web, gives, standing, then), True)


STAIR = Web(1, grown.stair([(1,)] * 5))


class Told(unittest.TestCase):
    def test_a_rest_that_never_goes_out(self):
        self.assertEqual(loose(STAIR, (1,), ("b",)), ())
        self.assertEqual(rest(STAIR, (1,), ("b",)), ("b",))
        self.assertEqual(may_burn(STAIR, (1,), ("b",)), ("b",))
        self.assertEqual(rest(STAIR, (2,), ("b",)), ())
        self.assertEqual(loose(STAIR, (2,), ("b",)), ("b",))

    def test_on_the_ground_and_over_one_that_burns(self):
        self.assertEqual(loose(STAIR, (1,), ("a",)), ("a",))
        self.assertEqual(loose(STAIR, (2,), ("d", "e")), ("e",))
        self.assertEqual(rest(STAIR, (2,), ("d", "e")), ("d",))
        self.assertEqual(rest(STAIR, (5,), ("a", "b", "c", "d", "e")), ())

    def test_reached_over_the_others(self):
        # b is reached over none by 2, c by the others than d: so d can go where a is held, too.
        self.assertEqual(loose(STAIR, (4,), ("a", "d")), ("a", "d"))
        self.assertEqual(loose(STAIR, (3,), ("a", "d")), ("a",))
        self.assertEqual(rest(STAIR, (3,), ("a", "d")), ())
        self.assertEqual(rest(STAIR, (2,), ("a", "d")), ("d",))

    def test_what_the_whole_standing_leaves_counts(self):
        web = Web(1, (("a", (2,), ()), ("b", (3,), ("a",)), ("c", (5,), ())))
        self.assertEqual(loose(web, (9,), ("b", "c")), ("c",))
        self.assertEqual(loose(web, (10,), ("b", "c")), ("b", "c"))
        self.assertEqual(rest(web, (9,), ("b", "c")), ())
        self.assertEqual(rest(web, (8,), ("b", "c")), ())
        self.assertEqual(rest(web, (4,), ("b",)), ("b",))

    def test_orders(self):
        web = Web(1, (("c", (1,), ()), ("b", (1,), ()), ("d", (1,), ()), ("a", (1,), ("d",))))
        self.assertEqual(loose(web, (60,), ("a", "b", "c", "d")), ("c", "b", "d", "a"))
        self.assertEqual(may_burn(web, (60,), ()), ("c", "b", "d", "a"))
        stuck = Web(1, (("g", (9,), ()), ("c", (1,), ("g",)), ("b", (1,), ("g",)), ("a", (1,), ("g",))))
        self.assertEqual(rest(stuck, (8,), ("a", "b", "c")), ("a", "b", "c"))
        self.assertEqual(may_burn(stuck, (8,), ("a", "c")), ("c", "a"))

    def test_may_burn_is_of_the_rest_and_reached_over_it(self):
        self.assertEqual(may_burn(STAIR, (2,), ("d",)), ("a", "d", "e"))
        self.assertEqual(may_burn(STAIR, (2,), ("a", "d")), ("a", "d", "e"))
        self.assertEqual(may_burn(STAIR, (2,), ()), ("a", "b", "c"))
        self.assertEqual(may_burn(STAIR, (0,), ()), ())

    def test_leads_to_itself_and_back(self):
        self.assertIs(leads(STAIR, (2,), ("d",), ("d",)), True)
        self.assertIs(leads(STAIR, (2,), ("d",), ("a", "d")), True)
        self.assertIs(leads(STAIR, (2,), ("a", "d"), ("d",)), True)
        self.assertIs(leads(STAIR, (2,), (), ("d",)), False)
        self.assertIs(leads(STAIR, (2,), ("d",), ()), False)
        self.assertIs(leads(STAIR, (1,), ("b",), ("c",)), False)

    def test_a_web_without_hearths(self):
        for stores, hearths, gives in (grown.EMPTY_ONE, grown.EMPTY_THREE):
            web = Web(stores, hearths)
            for by in gives:
                for ask in (loose, rest, may_burn):
                    self.assertEqual(ask(web, by, ()), ())
                self.assertIs(leads(web, by, (), ()), True)

    def test_tuples_are_told(self):
        for ask in (loose, rest, may_burn):
            for standing in ((), ("a",), ("d", "e")):
                self.assertIsInstance(ask(STAIR, (3,), standing), tuple)


class Arguments(unittest.TestCase):
    def test_by_names(self):
        for ask in (loose, rest, may_burn):
            told = ask(STAIR, (3,), ("a", "d"))
            self.assertEqual(ask(web=STAIR, gives=(3,), standing=("a", "d")), told)
            self.assertEqual(ask(standing=("a", "d"), web=STAIR, gives=(3,)), told)
        self.assertIs(leads(other=("a", "d"), one=("d",), gives=(2,), web=STAIR), True)
        self.assertIs(leads(STAIR, (2,), other=(), one=("d",)), False)


if __name__ == "__main__":
    unittest.main()
