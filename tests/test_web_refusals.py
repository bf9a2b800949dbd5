import copy
import unittest

from kindlestair.errors import HearthError, NoName, NoStores, NoWeb
from kindlestair.webs import Web
from samples import NAMED_AS_WORDS, ONE_STORE, ORDINARY, chain, odd_things

GROUND = ("a", (1,), ())


class Refusals(unittest.TestCase):
    def refused_at(self, place, stores, hearths):
        with self.assertRaises(NoWeb) as caught:
            Web(stores, hearths)
        self.assertEqual(caught.exception.place, place, hearths)
        self.assertNotIsInstance(caught.exception.place, bool)
        self.assertIsInstance(caught.exception, HearthError)

    def hearth_refused(self, hearth, stores=1, ahead=()):
        """It is refused at its place: as the only one, behind others and ahead of others."""
        self.refused_at(len(ahead), stores, ahead + (hearth,))
        behind = (("y", (1,) * stores, ()), ("z", (1,) * stores, ()))
        self.refused_at(len(ahead), stores, ahead + (hearth,) + behind)
        self.refused_at(len(ahead) + 2, stores, ahead + behind + (hearth,))


class StoreRefusals(unittest.TestCase):
    def test_stores_from_one_to_three(self):
        for stores in (1, 2, 3):
            self.assertEqual(Web(stores).stores, stores)
        for stores in (0, 4, -1, -3, 5, 16, 10 ** 30):
            with self.assertRaises(NoStores):
                Web(stores)

    def test_stores_of_any_kind(self):
        for thing in odd_things() + ["a", (), ("a",), (1,), "2", [2], ((2,), 2)]:
            for hearths in ((), (GROUND,)):
                with self.assertRaises(NoStores):
                    Web(thing, hearths)
                with self.assertRaises(NoStores):
                    Web(hearths=hearths, stores=thing)

    def test_stores_ahead_of_hearths(self):
        for stores in (0, 4, True, None, "1"):
            for hearths in (None, [], [GROUND], (GROUND, GROUND), chain(16) + (GROUND,), ((),)):
                with self.assertRaises(NoStores):
                    Web(stores, hearths)

    def test_no_field(self):
        with self.assertRaises(NoStores) as caught:
            Web(0)
        self.assertEqual(vars(caught.exception), {})


class HearthsRefusals(Refusals):
    def test_what_is_no_tuple(self):
        for thing in odd_things() + [[GROUND], {"a": GROUND}, "a", 0, 1, {GROUND}]:
            if not isinstance(thing, tuple):
                self.refused_at(None, 1, thing)

    def test_a_hearth_itself_is_no_tuple_of_hearths(self):
        self.refused_at(0, 1, GROUND)

    def test_sixteen_and_seventeen(self):
        self.assertEqual(len(Web(1, chain(16))), 16)
        self.refused_at(None, 1, chain(16) + (("q", (1,), ()),))
        self.refused_at(None, 1, chain(16) + (None,))
        self.refused_at(None, 1, (None,) * 17)
        self.refused_at(0, 1, (None,) * 16)
        self.refused_at(15, 1, chain(15) + (None,))

    def test_the_first_that_is_not_so(self):
        self.refused_at(1, 1, (GROUND, None, GROUND, []))
        self.refused_at(2, 1, (GROUND, ("b", (1,), ()), ("c", (0,), ()), ("b", (1,), ())))

    def test_a_hearth_of_any_kind(self):
        for thing in odd_things() + ["abc", 0, 1, (), list(GROUND), {"a": (1,)}]:
            self.hearth_refused(thing)
            self.hearth_refused(thing, ahead=(GROUND,))

    def test_parts_too_many_or_too_few(self):
        for thing in (("a",), ("a", (1,)), ("a", (1,), (), ()), ("a", (1,), (), None), (GROUND,)):
            self.hearth_refused(thing)

    def test_parts_in_another_order(self):
        for thing in (((1,), "a", ()), ("a", (), (1,)), ((), (1,), "a"), ("a", 1, ())):
            self.hearth_refused(thing)


class NameRefusals(Refusals):
    def test_names_of_one_and_of_six_letters(self):
        for name in ("a", "z", "m", "az", "abcdef", "zzzzzz", "stores", "hearth", "over"):
            self.assertEqual(Web(1, ((name, (1,), ()),)).names(), (name,))

    def test_names_of_none_and_of_seven(self):
        for name in ("", "abcdefg", "zzzzzzz", "a" * 4000):
            self.hearth_refused((name, (1,), ()))

    def test_names_with_other_signs(self):
        for sign in "AZ0159 _-.`{~!\n\t":
            for name in (sign, sign + "a", "a" + sign, "a" + sign + "b"):
                self.hearth_refused((name, (1,), ()))

    def test_letters_of_other_alphabets(self):
        for name in ("\u00e9", "a\u00df", "\u03b1", "\uff41", "\u0131"):
            self.hearth_refused((name, (1,), ()))

    def test_names_of_any_kind(self):
        for thing in odd_things() + [0, 1, (), ["a"], b"a", ("a",)]:
            self.hearth_refused((thing, (1,), ()))

    def test_the_same_name_twice(self):
        self.refused_at(1, 1, (GROUND, GROUND))
        self.refused_at(2, 1, (GROUND, ("b", (1,), ()), ("a", (2,), ("b",))))
        self.refused_at(15, 1, chain(15) + (GROUND,))


class HungerRefusals(Refusals):
    def test_hungers_of_0_and_9(self):
        for stores, hungers in ((1, (1,)), (1, (9,)), (2, (0, 9)), (2, (9, 0)), (2, (9, 9)), (3, (0, 0, 1)),
                                (3, (1, 0, 0)), (3, (0, 9, 0)), (3, (9, 9, 9))):
            self.assertEqual(Web(stores, (("a", hungers, ()),)).hungers("a"), hungers)

    def test_hungers_of_10_and_below_0(self):
        for stores, hungers in ((1, (10,)), (1, (-1,)), (2, (0, 10)), (2, (10, 0)), (2, (1, -1)), (2, (-1, 1)),
                                (3, (1, 1, 10)), (3, (1, -1, 1)), (1, (60,)), (1, (10 ** 30,))):
            self.hearth_refused(("a", hungers, ()), stores)

    def test_all_0(self):
        for stores in (1, 2, 3):
            self.hearth_refused(("a", (0,) * stores, ()), stores)

    def test_a_number_too_many_or_too_few(self):
        for stores in (1, 2, 3):
            for many in (0, 1, 2, 3, 4):
                if many != stores:
                    self.hearth_refused(("a", (1,) * many, ()), stores)

    def test_hungers_of_any_kind(self):
        for thing in odd_things() + [0, 1, "a", (), [1], (1, 1), ((1,),), ("1",), ("a",), {1: 1}]:
            self.hearth_refused(("a", thing, ()))

    def test_one_hunger_of_any_kind(self):
        for thing in odd_things() + ["a", (), (1,), [1]]:
            self.hearth_refused(("a", (thing,), ()))
            self.hearth_refused(("a", (thing, 1), ()), 2)
            self.hearth_refused(("a", (1, thing), ()), 2)

    def test_truths_are_no_numbers(self):
        self.hearth_refused(("a", (True,), ()))
        self.hearth_refused(("a", (1, False), ()), 2)


class FeederRefusals(Refusals):
    AHEAD = (GROUND, ("b", (1,), ()))

    def test_twice_the_same(self):
        for feeders in (("a", "a"), ("a", "b", "a"), ("b", "b", "a")):
            self.hearth_refused(("c", (1,), feeders), ahead=self.AHEAD)

    def test_each_once_in_any_order(self):
        for feeders in ((), ("a",), ("b",), ("a", "b"), ("b", "a")):
            self.assertEqual(Web(1, self.AHEAD + (("c", (1,), feeders),)).feeders("c"), feeders)

    def test_of_a_hearth_behind(self):
        self.refused_at(0, 1, (("b", (1,), ("a",)), GROUND))
        self.refused_at(1, 1, (GROUND, ("b", (1,), ("a", "c")), ("c", (1,), ("a",))))

    def test_of_itself(self):
        self.hearth_refused(("c", (1,), ("c",)))
        self.hearth_refused(("c", (1,), ("a", "c")), ahead=self.AHEAD)

    def test_of_no_hearth(self):
        for name in ("x", "", "A", "a ", "ab", "toolong"):
            self.hearth_refused(("c", (1,), (name,)), ahead=self.AHEAD)
            self.hearth_refused(("c", (1,), ("a", name)), ahead=self.AHEAD)

    def test_feeders_of_any_kind(self):
        for thing in odd_things() + [0, 1, "a", "ab", ["a"], {"a": "b"}, {"a"}, (("a",),), (GROUND,)]:
            self.hearth_refused(("c", (1,), thing), ahead=self.AHEAD)

    def test_one_feeder_of_any_kind(self):
        for thing in odd_things() + [0, 1, (), ("a",), ["a"], GROUND]:
            self.hearth_refused(("c", (1,), (thing,)), ahead=self.AHEAD)
            self.hearth_refused(("c", (1,), ("a", thing)), ahead=self.AHEAD)
            self.hearth_refused(("c", (1,), (thing, "a")), ahead=self.AHEAD)


class NoNames(unittest.TestCase):
    def refused(self, web, thing):
        for ask in (web.hungers, web.feeders, web.above):
            with self.assertRaises(NoName) as caught:
                ask(thing)
            self.assertIs(caught.exception.name, thing)
            with self.assertRaises(NoName) as caught:
                ask(name=thing)
            self.assertIs(caught.exception.name, thing)

    def test_names_of_no_hearth(self):
        for stores, hearths, _, _ in ORDINARY:
            web = Web(stores, hearths)
            for name in ("x", "ab", "overs", "store", "toolong", "", "A", " a", "a ", "a\n", "1", "0"):
                self.refused(web, name)

    def test_words_of_rows_where_they_are_no_names(self):
        web = Web(*ONE_STORE[:2])
        for name in ("over", "hearth", "stores"):
            self.refused(web, name)
            self.assertEqual(len(Web(*NAMED_AS_WORDS[:2]).hungers(name)), 1)

    def test_things_of_any_kind(self):
        for stores, hearths, _, _ in ORDINARY:
            web = Web(stores, hearths)
            for thing in odd_things() + [0, 1, (), ("a",), ["a"], b"a", {"a": 1}, web, hearths]:
                self.refused(web, thing)

    def test_what_is_refused_changes_nothing(self):
        web = Web(*ONE_STORE[:2])
        ahead = copy.deepcopy(vars(web))
        thing = ["a", {"b": [1]}]
        self.refused(web, thing)
        self.refused(web, "x")
        self.assertEqual(vars(web), ahead)
        self.assertEqual(thing, ["a", {"b": [1]}])


class HandedIn(Refusals):
    def test_what_is_handed_in_is_not_changed(self):
        rows = [("a", [1], []), ["b", (1,), ("a",)]]
        kept = copy.deepcopy(rows)
        self.refused_at(None, 1, rows)
        self.refused_at(0, 1, tuple(rows))
        self.refused_at(0, 1, (rows[1],))
        self.assertEqual(rows, kept)


if __name__ == "__main__":
    unittest.main()
