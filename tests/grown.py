"""Webs for the tests: some written out, some grown from a number, always the same from the same one."""

import random

LETTERS = "abcdefghijklmnop"


def stair(hungers):
    """Hearths each over the one ahead."""
    return tuple([
        (LETTERS[at], hunger, (LETTERS[at - 1],) if at else ()) for at, hunger in enumerate(hungers)])


# Each row: stores, hearths, and gives by which questions are asked. Names don't rise in the webs' order.
STAIR = (1, stair([(1,)] * 7), ((0,), (1,), (2,), (3,), (6,), (7,), (60,)))
UNEVEN = (1, (
    ("f", (2,), ()), ("e", (9,), ("f",)), ("d", (1,), ("e",)), ("c", (3,), ("d",)), ("b", (1,), ("c",)),
), ((0,), (1,), (2,), (10,), (11,), (12,), (13,), (14,), (16,), (60,)))
TREE = (1, (
    ("root", (1,), ()), ("left", (2,), ("root",)), ("right", (1,), ("root",)), ("la", (1,), ("left",)),
    ("lb", (2,), ("left",)), ("ra", (3,), ("right",)), ("top", (1,), ("ra",)),
), ((0,), (1,), (2,), (3,), (4,), (5,), (9,), (60,)))
FEEDERS = (1, (
    ("z", (3,), ()), ("y", (1,), ()), ("x", (2,), ("z", "y")), ("w", (1,), ("x",)), ("v", (2,), ("w", "z")),
    ("u", (1,), ("v", "w")),
), ((0,), (1,), (2,), (3,), (4,), (5,), (6,), (60,)))
GROUNDS = (1, (
    ("c", (2,), ()), ("a", (1,), ()), ("b", (3,), ()), ("e", (1,), ("b",)), ("d", (2,), ("e", "a")),
), ((0,), (1,), (2,), (3,), (4,), (5,), (60,)))
TWO = (2, (
    ("d", (1, 0), ()), ("c", (0, 1), ("d",)), ("b", (1, 1), ("c",)), ("a", (2, 0), ("b",)), ("e", (0, 2), ("a", "c")),
    ("f", (1, 0), ("e",)),
), ((0, 0), (1, 0), (1, 1), (2, 1), (2, 2), (3, 1), (3, 2), (60, 2), (60, 60)))
THREE = (3, (
    ("m", (1, 0, 2), ()), ("k", (0, 1, 0), ("m",)), ("n", (0, 0, 1), ("k",)), ("j", (2, 1, 0), ("n", "k")),
    ("i", (1, 1, 1), ("j",)), ("o", (0, 0, 3), ()),
), ((0, 0, 0), (1, 1, 2), (1, 1, 3), (2, 1, 2), (3, 1, 3), (3, 2, 2), (3, 2, 60), (60, 60, 60)))
EMPTY_ONE = (1, (), ((0,), (1,), (60,)))
EMPTY_THREE = (3, (), ((0, 0, 0), (60, 0, 60)))

WRITTEN = (STAIR, UNEVEN, TREE, FEEDERS, GROUNDS, TWO, THREE, EMPTY_ONE, EMPTY_THREE)


def hungers_from(source, stores, most):
    while True:
        hungers = tuple([source.randint(0, most) for _ in range(stores)])
        if any(hungers):
            return hungers


def grown(number, many, stores, *, most=3, near=2, grounds=0.15):
    """A web's hearths: each over a few of the `near` ones ahead, or on the ground."""
    source = random.Random(number)
    names = list(LETTERS[:many])
    source.shuffle(names)
    hearths = []
    for at, name in enumerate(names):
        ahead = names[max(0, at - near):at]
        feeders = source.sample(ahead, source.randint(1, len(ahead))) if ahead else []
        if source.random() < grounds:
            feeders = []
        hearths.append((name, hungers_from(source, stores, most), tuple(feeders)))
    return tuple(hearths)


def some_gives(number, stores, most):
    source = random.Random(number)
    return tuple([source.randint(0, most) for _ in range(stores)])


def small_webs(count, largest=7):
    """Rows of stores, hearths and gives, of webs of up to so many hearths."""
    rows = [(stores, hearths, by) for stores, hearths, gives in WRITTEN for by in gives]
    for number in range(count):
        stores, many, most = 1 + number % 3, 2 + number % (largest - 1), (1, 2, 3, 9)[number % 4]
        hearths = grown(number, many, stores, most=most, near=1 + number % 3, grounds=(0, 0.1, 0.3)[number % 3])
        rows.append((stores, hearths, some_gives(number, stores, most * (2 + number % 3))))
    return rows
