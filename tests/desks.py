"""Desks for the tests, and what one tells."""

from kindlestair.desk import Desk

# One that asks changes nothing: so all of these tell the same as long as nothing is done.
ASKED = ("burning", "rest", "may", "loose", "freeing", "sparks", "spare", "web", "to -")

START = ("hearth b 1 2", "hearth a 3 0 over b", "hearth d 2 2 over a", "hearth c 0 4", "give 0 6", "give 1 8")


def desk(stores=2, rows=START):
    made = Desk(stores)
    for row in rows:
        made.say(row)
    return made


def answers(a_desk):
    """All that a desk tells of its house without names."""
    return [a_desk.say(row) for row in ASKED]


def written(row):
    """A row of switches as the desk tells it."""
    if row is None:
        return "never"
    return " ".join([("+" if word == "kindle" else "-") + name for word, name in row]) or "here"


def deed_row(deed):
    """The desk's row of a deed of the house."""
    if deed[0] != "build":
        return " ".join([str(part) for part in deed])
    name, hungers, feeders = deed[1]
    over = ["over", *feeders] if feeders else []
    return " ".join(["hearth", name, *map(str, hungers), *over])


def rebuilt(a_house, start):
    """A desk to which the deeds of the house's log were said, behind those that make its first web and gives."""
    web, gives = start
    made = Desk(web.stores)
    for hearth in web.hearths:
        made.say(deed_row(("build", hearth)))
    for store, many in enumerate(gives):
        made.say(f"give {store} {many}")
    for deed in a_house.log():
        made.say(deed_row(deed))
    return made
