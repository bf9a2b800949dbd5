"""Wrong things for each place of a function, with the refusal that they must meet."""

import copy

from kindlestair.errors import NoGives, NoLog, NoName, NoRow, NoStanding, NoStore, NoSwitch, NoWeb
from kindlestair.webs import Web
from samples import odd_things

HEARTHS = (("b", (1, 2), ()), ("a", (3, 0), ("b",)), ("d", (2, 2), ("a",)), ("c", (0, 4), ()))
WEB = Web(2, HEARTHS)
GIVES = (5, 6)

WEBS = odd_things() + [0, 1, 2, "a", (), HEARTHS, (2, HEARTHS), str(WEB), Web, {2: HEARTHS}, list(HEARTHS)]
NOT_GIVES = odd_things() + [
    0, 5, "a", "56", (), (5,), (5, 6, 7), (5, 61), (61, 5), (-1, 5), (5, -1), (True, 5), (5, False), [5, 6], (5, [6]),
    (5, "6"), ((5, 6),), (5, (6,)), (None, None), {5: 6}, ("a", "b"), (10 ** 30, 5), (5, None),
]
NOT_NAMES = odd_things() + [
    0, 1, "a", "ab", ("b", "a"), ("a", "a"), ("a", "b", "b"), ("x",), ("a", "x"), ("",), ("A",), ["a"], ["a", "b"],
    ("a", 1), (1, 2), (("a",),), ("a", ("b",)), ("a", ["b"]), ("a", None), {"a": "b"}, {"a"}, (b"a",), ("a ",),
]
TOO_MUCH = [(("a", "b", "d"), 0), (("a", "b", "c", "d"), 0), (("b", "c", "d"), 1)]
SWITCHES = odd_things() + [
    0, 1, "a", "kindle", (), ("kindle",), ("out",), ("a",), ("a", "kindle"), ("kindle", "x"), ("out", ""),
    ("gust", "a"), ("spark", "a"), ("Kindle", "a"), ("kindle ", "a"), ("", "a"), ("kindle", "a", "a"), ["kindle", "a"],
    ("kindle", ["a"]), ("kindle", ("a",)), (("kindle",), "a"), ("kindle", None), (None, "a"), (True, "a"),
    ("kindle", True), ("out", 1), (1, "a"), {"kindle": "a"}, (("kindle", "a"),), (b"out", "a"), ("out", b"a"),
    ("out", {}), ({}, "a"), ("out", "a", None),
] + [("out", thing) for thing in odd_things()] + [(thing, "b") for thing in odd_things()]
ROWS = [thing for thing in odd_things() + [0, 1, "a", [("kindle", "b")], {"kindle": "b"}] if not isinstance(thing, tuple)]


def wrong_things(kind):
    """Rows of a wrong thing, the class of its refusal and the refusal's fields."""
    if kind == "web":
        return [(thing, NoWeb, {"place": None}) for thing in WEBS]
    if kind == "gives":
        return [(thing, NoGives, {}) for thing in NOT_GIVES]
    if kind == "names":
        return [(thing, NoStanding, {"store": None}) for thing in NOT_NAMES]
    if kind == "standing":
        too_much = [(names, NoStanding, {"store": store}) for names, store in TOO_MUCH]
        return wrong_things("names") + too_much
    if kind == "switch":
        return [(thing, NoSwitch, {}) for thing in SWITCHES]
    if kind == "row":
        return [(thing, NoRow, {"place": None}) for thing in ROWS]
    if kind == "name":
        things = odd_things() + ["x", "ab", "", ("a",), ["a"], 0, 1, ("kindle", "a"), b"a"]
        return [(thing, NoName, {"name": thing}) for thing in things]
    if kind == "store":
        things = odd_things() + [2, 3, 60, "a", "0", (), (0,), [1], ("a",), b"1", {0: 1}]
        return [(thing, NoStore, {}) for thing in things]
    if kind == "deeds":
        return [(thing, NoLog, {"place": None}) for thing in ROWS]
    return []


RIGHT = {"web": WEB, "gives": GIVES, "names": ("a", "b"), "standing": ("b", "c"), "thing": None,
         "switch": ("kindle", "a"), "row": (("kindle", "a"),), "name": "d", "store": 1,
         "deeds": (("kindle", "b"), ("give", 0, 60))}


class WrongInputs:
    """Tests of functions, told as rows of a function and its arguments (name, kind), those by name alone last."""

    FUNCTIONS = ()

    def meets(self, ask, arguments, alone, refusal, fields):
        """The refusal is met, by places and by names, and nothing handed in is changed."""
        by_place = [value for name, value in arguments if name not in alone]
        by_name = {name: value for name, value in arguments if name in alone}
        before = copy.deepcopy(vars(WEB))
        for call in (lambda: ask(*by_place, **by_name), lambda: ask(**dict(arguments))):
            with self.assertRaises(refusal) as caught:
                call()
            self.assertEqual(list(vars(caught.exception)), list(fields))
            for field, value in fields.items():
                self.assertIs(getattr(caught.exception, field), value)
        self.assertEqual(vars(WEB), before)

    def test_one_alone(self):
        for ask, places, alone in self.FUNCTIONS:
            right = [(name, RIGHT[kind]) for name, kind in places]
            for at, (name, kind) in enumerate(places):
                for thing, refusal, fields in wrong_things(kind):
                    self.meets(ask, right[:at] + [(name, thing)] + right[at + 1:], alone, refusal, fields)

    def test_several_at_once(self):
        for ask, places, alone in self.FUNCTIONS:
            right = [(name, RIGHT[kind]) for name, kind in places]
            for at, (name, kind) in enumerate(places):
                for number, (thing, refusal, fields) in enumerate(wrong_things(kind)):
                    arguments = right[:at] + [(name, thing)]
                    for other, other_kind in places[at + 1:]:
                        others = wrong_things(other_kind) or [(None, None, None)]
                        arguments.append((other, others[(7 * number + at) % len(others)][0]))
                    self.meets(ask, arguments, alone, refusal, fields)

    def test_right_ones_are_taken(self):
        for ask, places, alone in self.FUNCTIONS:
            by_place = [RIGHT[kind] for name, kind in places if name not in alone]
            by_name = {name: RIGHT[kind] for name, kind in places if name in alone}
            self.assertEqual(ask(*by_place, **by_name), ask(**{name: RIGHT[kind] for name, kind in places}))

    def test_one_too_many_or_too_few(self):
        for ask, places, alone in self.FUNCTIONS:
            by_place = [RIGHT[kind] for name, kind in places if name not in alone]
            for arguments in (by_place[:-1], by_place + [()]):
                with self.assertRaises(TypeError):
                    ask(*arguments)

    def test_what_is_handed_in_is_not_changed(self):
        for ask, places, alone in self.FUNCTIONS:
            for thing in (["b", "a"], {"a": ["b"]}, (["a"], {"b": []})):
                kept = copy.deepcopy(thing)
                for at, (name, kind) in enumerate(places):
                    arguments = {other: RIGHT[other_kind] for other, other_kind in places}
                    arguments[name] = thing
                    try:
                        ask(**arguments)
                    except (ValueError, RuntimeError):
                        pass
                    self.assertEqual(thing, kept)
