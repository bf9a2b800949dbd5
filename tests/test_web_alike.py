import unittest

from kindlestair.webs import Web
from samples import ORDINARY, AlikeToAll, Odd

HEARTHS = (("a", (1, 0), ()), ("b", (2, 3), ("a",)), ("c", (0, 1), ("a", "b")))
# Each differs from HEARTHS in one thing.
OTHERS = (
    (),
    HEARTHS[:2],
    HEARTHS + (("d", (1, 1), ()),),
    (HEARTHS[0], HEARTHS[1], ("x", (0, 1), ("a", "b"))),
    (HEARTHS[0], HEARTHS[1], ("c", (0, 2), ("a", "b"))),
    (HEARTHS[0], HEARTHS[1], ("c", (1, 0), ("a", "b"))),
    (HEARTHS[0], HEARTHS[1], ("c", (0, 1), ("b", "a"))),
    (HEARTHS[0], HEARTHS[1], ("c", (0, 1), ("a",))),
    (HEARTHS[0], HEARTHS[1], ("c", (0, 1), ())),
)


class Alike(unittest.TestCase):
    def alike(self, one, other):
        for here, there in ((one, other), (other, one)):
            self.assertIs(here == there, True)
            self.assertIs(here != there, False)
            self.assertTrue(here in [None, there])
            self.assertTrue(here in (there,))

    def unlike(self, one, other):
        for here, there in ((one, other), (other, one)):
            self.assertIs(here == there, False)
            self.assertIs(here != there, True)
            self.assertFalse(here in [there])
            self.assertFalse(here in (there, there))

    def test_alike_where_both_values_are(self):
        for stores, hearths, _, _ in ORDINARY:
            copied = tuple([(name, tuple(list(hungers)), tuple(list(feeders))) for name, hungers, feeders in hearths])
            self.alike(Web(stores, hearths), Web(stores, copied))
            web = Web(stores, hearths)
            self.alike(web, web)

    def test_webs_that_differ_in_one_thing(self):
        for other in OTHERS:
            self.unlike(Web(2, HEARTHS), Web(2, other))

    def test_the_order_counts(self):
        one, other = ("a", (1,), ()), ("b", (1,), ())
        self.unlike(Web(1, (one, other)), Web(1, (other, one)))

    def test_stores_alone_differ(self):
        self.unlike(Web(1), Web(2))
        self.unlike(Web(2), Web(3))
        self.alike(Web(2), Web(2, ()))

    def test_things_of_other_kinds(self):
        for stores, hearths, text, _ in ORDINARY:
            web = Web(stores, hearths)
            for thing in (None, True, False, 0, 1, len(hearths), stores, text, repr(web), b"", hearths,
                          (stores, hearths), [stores, hearths], list(hearths), {}, [], Odd(), Web, [web], (web,)):
                self.unlike(web, thing)

    def test_a_thing_that_is_alike_to_all(self):
        web = Web(2, HEARTHS)
        self.assertIs(web == AlikeToAll(), False)
        self.assertIs(web != AlikeToAll(), True)

    def test_a_thing_with_the_same_values(self):
        thing = Odd()
        thing.stores, thing.hearths = 2, HEARTHS
        self.unlike(Web(2, HEARTHS), thing)


if __name__ == "__main__":
    unittest.main()
