import unittest

import grown
import plain
from kindlestair.errors import Burns, Cold, Dark, NoRow, NoSwitch, StateError, Wanting
from kindlestair.switches import gone, switched
from kindlestair.webs import Web

STAIR = Web(1, grown.stair([(1,), (2,), (3,)]))
STORES = Web(3, (("b", (1, 1, 1), ()), ("a", (2, 3, 4), ("b",)), ("c", (0, 0, 1), ("a", "b"))))


def plain_switch(hearths, gives, standing, word, name):
    """The standing behind a switch, or the class and field of its refusal."""
    hungers_of = {hearth: hungers for hearth, hungers, _ in hearths}
    feeders = {hearth: feeders for hearth, _, feeders in hearths}[name]
    if word == "kindle" and name in standing:
        return Burns, name
    if word == "out" and name not in standing:
        return Dark, name
    if feeders and not set(feeders) & set(standing):
        return Cold, name
    then = tuple(sorted(set(standing) ^ {name}))
    for store, many in enumerate(gives):
        if sum(hungers_of[other][store] for other in then) > many:
            return Wanting, store
    return then


class Switched(unittest.TestCase):
    def refused(self, refusal, field, worth, web, gives, standing, switch):
        with self.assertRaises(refusal) as caught:
            switched(web, gives, standing, switch)
        self.assertEqual(vars(caught.exception), {field: worth})
        self.assertIsInstance(caught.exception, StateError)

    def test_both_switches_of_every_hearth_in_all_standings(self):
        for stores, hearths, gives in grown.small_webs(30):
            web = Web(stores, hearths)
            for standing in plain.standings(hearths, gives):
                for word in ("kindle", "out"):
                    for name in web.names():
                        told = plain_switch(hearths, gives, standing, word, name)
                        if isinstance(told[0] if told else None, type):
                            field = "store" if told[0] is Wanting else "name"
                            self.refused(told[0], field, told[1], web, gives, standing, (word, name))
                        else:
                            self.assertEqual(switched(web, gives, standing, (word, name)), told)

    def test_the_standing_behind_it_is_rising(self):
        web = Web(1, (("m", (1,), ()), ("z", (1,), ("m",)), ("a", (1,), ("m",)), ("p", (1,), ("m",))))
        self.assertEqual(switched(web, (60,), ("m", "z"), ("kindle", "a")), ("a", "m", "z"))
        self.assertEqual(switched(web, (60,), ("m", "z"), ("kindle", "p")), ("m", "p", "z"))
        self.assertEqual(switched(web, (60,), ("a", "m", "z"), ("out", "m")), ("a", "z"))
        self.assertEqual(switched(web, (60,), (), ("kindle", "m")), ("m",))
        self.assertEqual(switched(web, (60,), ("m",), ("out", "m")), ())

    def test_on_the_ground(self):
        self.assertEqual(switched(STAIR, (1,), (), ("kindle", "a")), ("a",))
        self.assertEqual(switched(STAIR, (1,), ("a",), ("out", "a")), ())
        self.assertEqual(switched(STAIR, (3,), ("a", "b"), ("out", "a")), ("b",))

    def test_none_of_its_feeders_burns(self):
        self.refused(Cold, "name", "b", STAIR, (60,), (), ("kindle", "b"))
        self.refused(Cold, "name", "b", STAIR, (60,), ("b",), ("out", "b"))
        self.refused(Cold, "name", "c", STAIR, (60,), ("a",), ("kindle", "c"))
        self.refused(Cold, "name", "c", STAIR, (60,), ("a", "c"), ("out", "c"))

    def test_one_of_several_feeders_is_enough(self):
        for standing in (("a",), ("b",), ("a", "b")):
            self.assertEqual(switched(STORES, (60,) * 3, standing, ("kindle", "c")), standing + ("c",))

    def test_too_little_of_the_first_store_or_a_later_one(self):
        for gives, store in (((2, 4, 5), 0), ((3, 3, 5), 1), ((3, 4, 4), 2), ((2, 3, 4), 0), ((3, 3, 4), 1)):
            self.refused(Wanting, "store", store, STORES, gives, ("b",), ("kindle", "a"))
        self.assertEqual(switched(STORES, (3, 4, 5), ("b",), ("kindle", "a")), ("a", "b"))

    def test_which_refusal_is_told_where_several_would_do(self):
        # b burns, none of its feeders does, and nothing is left of the store.
        self.refused(Burns, "name", "b", STAIR, (2,), ("b",), ("kindle", "b"))
        # c is dark, b is, too, and the store gives too little.
        self.refused(Cold, "name", "c", STAIR, (1,), ("a",), ("kindle", "c"))
        self.refused(Dark, "name", "c", STAIR, (1,), ("a",), ("out", "c"))
        self.refused(Dark, "name", "b", STAIR, (1,), (), ("out", "b"))
        self.refused(Wanting, "store", 0, STAIR, (2,), ("a",), ("kindle", "b"))

    def test_what_is_no_switch_has_no_field(self):
        for switch in (("gust", "a"), ("kindle", "x"), ("kindle",), ["kindle", "a"], None, ("out", "a", "b")):
            with self.assertRaises(NoSwitch) as caught:
                switched(STAIR, (60,), (), switch)
            self.assertEqual(vars(caught.exception), {})

    def test_by_names(self):
        self.assertEqual(switched(switch=("kindle", "a"), standing=(), gives=(1,), web=STAIR), ("a",))
        self.assertEqual(switched(STAIR, (1,), switch=("kindle", "a"), standing=()), ("a",))


def contraries(row):
    return tuple([({"kindle": "out", "out": "kindle"}[word], name) for word, name in reversed(row)])


UP = (("kindle", "a"), ("kindle", "b"), ("out", "a"), ("kindle", "c"))


class Gone(unittest.TestCase):
    def refused(self, place, row, standing=()):
        with self.assertRaises(NoRow) as caught:
            gone(STAIR, (5,), standing, row)
        self.assertEqual(vars(caught.exception), {"place": place})
        self.assertNotIsInstance(caught.exception.place, bool)

    def test_none_one_and_many(self):
        self.assertEqual(gone(STAIR, (5,), ("b",), ()), ("b",))
        self.assertEqual(gone(STAIR, (5,), (), ()), ())
        self.assertEqual(gone(STAIR, (5,), (), UP[:1]), ("a",))
        self.assertEqual(gone(STAIR, (5,), (), UP), ("b", "c"))

    def test_each_is_done_as_by_switched(self):
        for stores, hearths, gives in grown.small_webs(20):
            web, standing, row = Web(stores, hearths), (), ()
            for at in range(40):
                switch = (("kindle", "out")[at * at % 3 % 2], (web.names() or ("a",))[(7 * at + at // 5) % max(len(web), 1)])
                try:
                    standing = switched(web, gives, standing, switch)
                    row += (switch,)
                except (StateError, NoSwitch):
                    with self.assertRaises(NoRow) as caught:
                        gone(web, gives, (), row + (switch,) + row)
                    self.assertEqual(caught.exception.place, len(row))
                self.assertEqual(gone(web, gives, (), row), standing)
                self.assertIsInstance(gone(web, gives, (), row), tuple)

    def test_the_first_the_middle_and_the_last_can_t_be_done(self):
        self.refused(0, (("kindle", "b"),) + UP)
        self.refused(0, UP, standing=("a",))
        self.refused(2, UP[:2] + (("kindle", "c"), ("out", "a")))
        self.refused(2, UP[:2] + (("kindle", "b"),) + UP[2:])
        self.refused(3, UP[:3] + (("out", "b"), ("kindle", "a")))
        self.refused(4, UP + (("kindle", "a"),))
        self.refused(4, UP + (("out", "a"),))

    def test_the_first_the_middle_and_the_last_is_no_switch(self):
        for thing in (None, (), ["kindle", "a"], ("kindle", "x"), ("gust", "a"), "out", ("out", ["a"]), {}, 0, True):
            self.refused(0, (thing,) + UP)
            self.refused(2, UP[:2] + (thing,) + UP[2:])
            self.refused(4, UP + (thing,))
            self.refused(0, (thing, thing))

    def test_what_is_no_tuple(self):
        for row in (None, [], list(UP), "", "kindle", 0, True, {}, dict(UP)):
            self.refused(None, row)

    def test_one_switch_is_no_row(self):
        self.refused(0, ("kindle", "a"))

    def test_a_row_and_its_contraries_end_where_it_began(self):
        for at in range(len(UP) + 1):
            self.assertEqual(gone(STAIR, (5,), (), UP[:at] + contraries(UP[:at])), ())
        self.assertEqual(gone(STAIR, (5,), ("b", "c"), contraries(UP) + UP), ("b", "c"))

    def test_by_names(self):
        self.assertEqual(gone(row=UP, standing=(), gives=(5,), web=STAIR), ("b", "c"))
        self.assertEqual(gone(STAIR, (5,), row=UP, standing=()), ("b", "c"))


if __name__ == "__main__":
    unittest.main()
