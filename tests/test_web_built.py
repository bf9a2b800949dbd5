import unittest

from kindlestair.errors import NoWeb
from kindlestair.webs import Web
from samples import ORDINARY, chain, odd_things


class Built(unittest.TestCase):
    def refused_at(self, place, web, hearth):
        kept = (web.stores, web.hearths, str(web))
        for ask in (lambda: web.built(hearth), lambda: web.built(hearth=hearth)):
            with self.assertRaises(NoWeb) as caught:
                ask()
            self.assertEqual(caught.exception.place, place)
        self.assertEqual((web.stores, web.hearths, str(web)), kept)

    def test_alike_to_the_web_made_at_once(self):
        for stores, hearths, text, above in ORDINARY:
            web = Web(stores)
            for hearth in hearths:
                web = web.built(hearth)
                self.assertIsInstance(web, Web)
            self.assertEqual(web, Web(stores, hearths))
            self.assertEqual((web.stores, web.hearths, str(web), len(web)), (stores, hearths, text, len(hearths)))
            for name, hungers, feeders in hearths:
                self.assertEqual((web.hungers(name), web.feeders(name), web.above(name)),
                                 (hungers, feeders, above[name]))

    def test_by_name(self):
        self.assertEqual(Web(1).built(hearth=("a", (1,), ())), Web(1, (("a", (1,), ()),)))

    def test_the_web_it_was_asked_of_stays(self):
        web = Web(1, chain(3))
        more = web.built(("x", (4,), ("c", "a")))
        self.assertEqual((web.hearths, len(web), web.above("a")), (chain(3), 3, ("b", "c")))
        self.assertEqual(web, Web(1, chain(3)))
        self.assertEqual((len(more), more.above("a")), (4, ("b", "c", "x")))
        self.assertEqual(web.built(("y", (1,), ())).names(), ("a", "b", "c", "y"))
        self.assertEqual(more.names(), ("a", "b", "c", "x"))

    def test_the_number_that_it_would_have(self):
        for many in (0, 1, 7, 15):
            web = Web(1, chain(many))
            for hearth in (("x", (0,), ()), ("x", (1, 1), ()), ("x", (1,), ("x",)), ("x", (1,), ("y",)),
                           ("", (1,), ()), ["x", (1,), ()], ("x", [1], ()), ("x", (1,), []), ("x", (1,))):
                self.refused_at(many, web, hearth)
            for thing in odd_things() + [(), 0, 1, "a"]:
                self.refused_at(many, web, thing)

    def test_a_name_that_stands_already(self):
        self.refused_at(3, Web(1, chain(3)), ("b", (1,), ()))

    def test_sixteen_stand(self):
        web = Web(1, chain(15)).built(("x", (1,), ("a",)))
        self.assertEqual(len(web), 16)
        self.refused_at(None, web, ("y", (1,), ()))
        for thing in odd_things() + [("a", (1,), ())]:
            self.refused_at(None, web, thing)


if __name__ == "__main__":
    unittest.main()
