import copy
import unittest

from kindlestair.webs import Web
from samples import NO_HEARTHS, ORDINARY, SIXTEEN, THREE_STORES, TWO_STORES


class Ordinary(unittest.TestCase):
    def test_values_are_as_handed_in(self):
        for stores, hearths, _, _ in ORDINARY:
            web = Web(stores, hearths)
            self.assertEqual((web.stores, web.hearths), (stores, hearths))
            self.assertIsInstance(web.hearths, tuple)

    def test_arguments_by_name(self):
        for stores, hearths, _, _ in ORDINARY:
            for web in (Web(stores=stores, hearths=hearths), Web(hearths=hearths, stores=stores),
                        Web(stores, hearths=hearths)):
                self.assertEqual((web.stores, web.hearths), (stores, hearths))

    def test_hearths_may_be_left_out(self):
        for stores in (1, 2, 3):
            for web in (Web(stores), Web(stores=stores)):
                self.assertEqual((web.stores, web.hearths), (stores, ()))

    def test_names_are_in_order(self):
        for stores, hearths, _, _ in ORDINARY:
            self.assertEqual(Web(stores, hearths).names(), tuple([hearth[0] for hearth in hearths]))
        # This order is not the rising one.
        self.assertEqual(Web(*TWO_STORES[:2]).names(), ("zest", "ash", "mid"))

    def test_hungers(self):
        for stores, hearths, _, _ in ORDINARY:
            web = Web(stores, hearths)
            for name, hungers, _ in hearths:
                self.assertEqual(web.hungers(name), hungers)
                self.assertEqual(web.hungers(name=name), hungers)
                self.assertIsInstance(web.hungers(name), tuple)

    def test_feeders(self):
        for stores, hearths, _, _ in ORDINARY:
            web = Web(stores, hearths)
            for name, _, feeders in hearths:
                self.assertEqual(web.feeders(name), feeders)
                self.assertEqual(web.feeders(name=name), feeders)
                self.assertIsInstance(web.feeders(name), tuple)
        self.assertEqual(Web(*THREE_STORES[:2]).feeders("top"), ("side", "low"))

    def test_above(self):
        for stores, hearths, _, above in ORDINARY:
            web = Web(stores, hearths)
            for name, _, _ in hearths:
                self.assertEqual(web.above(name), above[name])
                self.assertEqual(web.above(name=name), above[name])
                self.assertIsInstance(web.above(name), tuple)

    def test_above_is_in_order_and_tells_each_once(self):
        web = Web(1, (("a", (1,), ()), ("z", (1,), ("a",)), ("c", (1,), ("a", "z")), ("b", (1,), ("z", "c", "a"))))
        self.assertEqual(web.above("a"), ("z", "c", "b"))
        self.assertEqual(web.above("z"), ("c", "b"))

    def test_above_leaves_out_what_only_shares_a_feeder(self):
        web = Web(1, (("a", (1,), ()), ("b", (1,), ("a",)), ("c", (1,), ("a",)), ("d", (1,), ("c",))))
        self.assertEqual(web.above("b"), ())
        self.assertEqual(web.above("c"), ("d",))

    def test_len_and_truth(self):
        for stores, hearths, _, _ in ORDINARY:
            web = Web(stores, hearths)
            self.assertEqual(len(web), len(hearths))
            self.assertIs(bool(web), len(hearths) > 0)
        self.assertEqual(len(Web(*SIXTEEN[:2])), 16)
        self.assertFalse(Web(*NO_HEARTHS[:2]))

    def test_text(self):
        for stores, hearths, text, _ in ORDINARY:
            self.assertEqual(str(Web(stores, hearths)), text)

    def test_repr(self):
        for stores, hearths, _, _ in ORDINARY:
            self.assertEqual(repr(Web(stores, hearths)), f"Web({stores}, {len(hearths)})")
        self.assertEqual(repr(Web(3, (("a", (1, 0, 0), ()),))), "Web(3, 1)")
        self.assertEqual(repr(Web(1)), "Web(1, 0)")

    def test_asking_changes_nothing(self):
        for stores, hearths, text, _ in ORDINARY:
            web = Web(stores, hearths)
            ahead = copy.deepcopy(vars(web))
            for name in web.names():
                web.hungers(name)
                web.feeders(name)
                web.above(name)
            len(web), repr(web), web == Web(1)
            self.assertEqual(str(web), text)
            self.assertEqual(vars(web), ahead)


class Text(unittest.TestCase):
    def test_a_web_without_hearths_is_its_first_row(self):
        self.assertEqual([str(Web(stores)) for stores in (1, 2, 3)], ["stores 1", "stores 2", "stores 3"])

    def test_on_the_ground_no_over_is_told(self):
        self.assertEqual(str(Web(1, (("a", (1,), ()),))), "stores 1\nhearth a 1")

    def test_noughts_are_written(self):
        self.assertEqual(str(Web(3, (("a", (0, 9, 0), ()),))), "stores 3\nhearth a 0 9 0")

    def test_feeders_are_written_as_they_stand(self):
        hearths = (("b", (1,), ()), ("a", (1,), ()), ("c", (1,), ("a", "b")), ("d", (1,), ("b", "a")))
        self.assertEqual(
            str(Web(1, hearths)), "stores 1\nhearth b 1\nhearth a 1\nhearth c 1 over a b\nhearth d 1 over b a")


if __name__ == "__main__":
    unittest.main()
