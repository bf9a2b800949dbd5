"""Webs and odd things that several tests share."""


def far_down(thing, depth):
    """The thing, so many tuples deep."""
    for _ in range(depth):
        thing = (thing,)
    return thing


class Odd:
    """A thing of another kind."""


class AlikeToAll:
    """A thing that says of all things that they are alike to it."""

    def __eq__(self, other):
        return True

    __hash__ = None


class Unhashable:
    """A thing that no dict can take, and that can't be compared."""

    def __eq__(self, other):
        raise AssertionError("a thing of another kind was compared")

    __hash__ = None


def odd_things():
    """Things that are neither a whole number from 0 to 9, nor a small text, nor a tuple that fits anywhere."""
    return [
        None, True, False, -1, 10, 10 ** 400, -10 ** 400, "", "A", "1", "a b", "toolong", "stores 1",
        b"", b"a", [], [1], ["a"], {}, {"a": 1}, {1: "a"}, set(), {"a"}, frozenset("a"),
        range(2), Odd(), Odd, len, AlikeToAll(), Unhashable(), NotImplemented, ...,
        (None,), (True,), ([],), ({},), (((),),), (1, (2, (3,))), far_down(1, 9), far_down([], 9),
    ]


# Each row: stores, hearths, text, and for each hearth those above it.
ONE_STORE = (
    1,
    (
        ("a", (1,), ()),
        ("b", (2,), ("a",)),
        ("c", (9,), ()),
        ("d", (3,), ("c", "a")),
        ("e", (1,), ("b",)),
    ),
    "stores 1\nhearth a 1\nhearth b 2 over a\nhearth c 9\nhearth d 3 over c a\nhearth e 1 over b",
    {"a": ("b", "d", "e"), "b": ("e",), "c": ("d",), "d": (), "e": ()},
)
TWO_STORES = (
    2,
    (
        ("zest", (0, 1), ()),
        ("ash", (9, 0), ("zest",)),
        ("mid", (4, 5), ("ash", "zest")),
    ),
    "stores 2\nhearth zest 0 1\nhearth ash 9 0 over zest\nhearth mid 4 5 over ash zest",
    {"zest": ("ash", "mid"), "ash": ("mid",), "mid": ()},
)
THREE_STORES = (
    3,
    (
        ("low", (1, 2, 3), ()),
        ("side", (0, 0, 1), ()),
        ("top", (0, 9, 0), ("side", "low")),
        ("apart", (7, 0, 0), ()),
    ),
    "stores 3\nhearth low 1 2 3\nhearth side 0 0 1\nhearth top 0 9 0 over side low\nhearth apart 7 0 0",
    {"low": ("top",), "side": ("top",), "top": (), "apart": ()},
)
NAMED_AS_WORDS = (
    1,
    (
        ("over", (1,), ()),
        ("hearth", (2,), ("over",)),
        ("stores", (3,), ("hearth", "over")),
    ),
    "stores 1\nhearth over 1\nhearth hearth 2 over over\nhearth stores 3 over hearth over",
    {"over": ("hearth", "stores"), "hearth": ("stores",), "stores": ()},
)
NO_HEARTHS = (2, (), "stores 2", {})

LETTERS = "abcdefghijklmnop"


def chain(many):
    """So many hearths of one store, each over the one ahead."""
    hearths = [(LETTERS[0], (1,), ())]
    for at in range(1, many):
        hearths.append((LETTERS[at], (1,), (LETTERS[at - 1],)))
    return tuple(hearths[:many])


SIXTEEN = (
    1,
    chain(16),
    "stores 1\nhearth a 1\n" + "\n".join(
        [f"hearth {LETTERS[at]} 1 over {LETTERS[at - 1]}" for at in range(1, 16)]),
    {LETTERS[at]: tuple(LETTERS[at + 1:]) for at in range(16)},
)

ORDINARY = (ONE_STORE, TWO_STORES, THREE_STORES, NAMED_AS_WORDS, NO_HEARTHS, SIXTEEN)
