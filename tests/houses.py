"""Houses for the tests, and what is told of one at a time."""

import random

import grown
from kindlestair.errors import Burns, Cold, Dark, NoDeed, NoWeb, Wanting
from kindlestair.houses import House
from kindlestair.webs import Web

HEARTHS = (("b", (1, 2), ()), ("a", (3, 0), ("b",)), ("d", (2, 2), ("a",)), ("c", (0, 4), ()))
DEED_REFUSALS = (NoDeed, NoWeb, Burns, Dark, Cold, Wanting)


def house(gives=(6, 8), deeds=(), hearths=HEARTHS):
    made = House(Web(len(gives), hearths), gives)
    made.do_all(deeds)
    return made


def told(a_house):
    """All that a house tells."""
    return (a_house.web(), a_house.gives(), a_house.burning(), a_house.spare(), a_house.rest(), a_house.may_burn(),
            a_house.log(), len(a_house), str(a_house), repr(a_house), bool(a_house))


def state(a_house):
    """What all else hangs on."""
    return a_house.web(), a_house.gives(), a_house.burning()


def refused(case, ask, refusal, **fields):
    """The refusal is met, with these fields and no others."""
    with case.assertRaises(refusal) as caught:
        ask()
    case.assertIs(type(caught.exception), refusal)
    case.assertEqual(list(vars(caught.exception)), list(fields))
    for field, value in fields.items():
        case.assertEqual(getattr(caught.exception, field), value)
        case.assertIs(type(getattr(caught.exception, field)), type(value))


def some_deed(source, a_house):
    """A deed of any kind, one that can be done or not."""
    names = list(a_house.web().names()) + ["nobody"]
    word = source.choice(("kindle", "kindle", "out", "gust", "spark", "spark", "give", "build"))
    if word == "give":
        return word, source.randint(0, a_house.web().stores), source.choice((0, 1, 3, 6, 9, 20, 60, 61))
    if word == "build":
        name = source.choice([*"qrstuvwxyz", *names])
        feeders = source.sample(names, min(len(names), source.randint(0, 2)))
        return word, (name, tuple([source.randint(0, 3) for _ in range(a_house.web().stores)]), tuple(feeders))
    return word, source.choice(names)


def lived(number, many=25):
    """A house to which deeds were done, refused and taken back, and what it told ahead of each deed of its log."""
    source = random.Random(number)
    stores = 1 + number % 3
    made = House(Web(stores, grown.grown(number, 1 + number % 5, stores)), grown.some_gives(number, stores, 9))
    ahead = []
    for _ in range(many):
        if ahead and source.random() < 0.15:
            made.back()
            ahead.pop()
            continue
        before = told(made)
        try:
            made.do(some_deed(source, made))
        except DEED_REFUSALS:
            assert told(made) == before
        else:
            ahead.append(before)
    return made, ahead
