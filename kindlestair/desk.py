"""The desk: a house that is spoken to in rows of words."""

from kindlestair.checker import holds
from kindlestair.errors import NoSay
from kindlestair.gusts import freeing, sparks
from kindlestair.houses import House
from kindlestair.papers import paper_burns
from kindlestair.rests import loose
from kindlestair.switches import KINDLE
from kindlestair.ways import row_for, row_to
from kindlestair.webs import Web, is_name
from kindlestair.words import hearth_told, is_number

DONE = "ok"
NONE = "-"


def check_alone(words):
    """NoSay where anything stands behind a row's first word."""
    if len(words) != 1:
        raise NoSay("this word stands alone")


def name_said(words):
    """The one name behind a row's first word."""
    if len(words) != 2 or not is_name(words[1]):
        raise NoSay("behind this word stands one name")
    return words[1]


def names_said(words):
    """The names behind a row's first word, rising; none where `-` stands for them."""
    if words[1:] == [NONE]:
        return ()
    if len(words) < 2 or not all([is_name(word) for word in words[1:]]):
        raise NoSay("behind this word stand names, or - for none")
    return tuple(sorted(words[1:]))


def names_told(names):
    """Names with blanks between, `-` of none."""
    return " ".join(names) or NONE


def row_told(row):
    """A row of switches as the desk tells it."""
    if row is None:
        return "never"
    signs = [("+" if word == KINDLE else "-") + name for word, name in row]
    return " ".join(signs) or "here"


def say_hearth(house, words):
    """Builds a hearth."""
    hearth = hearth_told(words)
    if hearth is None:
        raise NoSay("no hearth is written so")
    house.do(("build", hearth))
    return DONE


def say_deed(house, words):
    """Does the deed of the row's word and its one name."""
    house.do((words[0], name_said(words)))
    return DONE


def say_give(house, words):
    """Lets a store give so much."""
    if len(words) != 3 or not all([is_number(word) for word in words[1:]]):
        raise NoSay("behind this word stand two numbers")
    house.do(("give", int(words[1]), int(words[2])))
    return DONE


def say_back(house, words):
    """Takes back the last deed."""
    check_alone(words)
    house.back()
    return DONE


def say_burning(house, words):
    """What burns."""
    check_alone(words)
    return names_told(house.burning())


def say_rest(house, words):
    """What never goes out."""
    check_alone(words)
    return names_told(house.rest())


def say_may(house, words):
    """What can come to burn."""
    check_alone(words)
    return names_told(house.may_burn())


def say_loose(house, words):
    """What can be put out ahead of all others."""
    check_alone(words)
    return names_told(loose(house.web(), house.gives(), house.burning()))


def say_freeing(house, words):
    """Those by whose gust everything can be put out."""
    check_alone(words)
    return names_told(freeing(house.web(), house.gives(), house.burning()))


def say_sparks(house, words):
    """Those by whose spark everything can be put out."""
    check_alone(words)
    return names_told(sparks(house.web(), house.gives(), house.burning()))


def say_spare(house, words):
    """What is left of each store."""
    check_alone(words)
    return " ".join([str(many) for many in house.spare()])


def say_to(house, words):
    """The row that leads to the standing of the names."""
    names = names_said(words)
    return row_told(row_to(house.web(), house.gives(), house.burning(), names))


def say_for(house, words):
    """The row behind which the named hearth burns."""
    name = name_said(words)
    return row_told(row_for(house.web(), house.gives(), house.burning(), name))


def say_web(house, words):
    """The web's text in one row."""
    check_alone(words)
    return "; ".join(str(house.web()).split("\n"))


def say_paper(house, words):
    """Whether the checker takes the house's paper of whether the named hearth can burn."""
    name = name_said(words)
    claim, paper = paper_burns(house.web(), house.gives(), house.burning(), name)
    return "holds" if holds(claim, paper) else "no"


ROWS = {
    "hearth": say_hearth,
    "kindle": say_deed,
    "out": say_deed,
    "gust": say_deed,
    "spark": say_deed,
    "give": say_give,
    "back": say_back,
    "burning": say_burning,
    "rest": say_rest,
    "may": say_may,
    "loose": say_loose,
    "freeing": say_freeing,
    "sparks": say_sparks,
    "spare": say_spare,
    "to": say_to,
    "for": say_for,
    "web": say_web,
    "paper": say_paper,
}


class Desk:
    """Keeps a house, at first without hearths, whose stores give 0."""

    def __init__(self, stores=1):
        web = Web(stores)
        self.house = House(web, (0,) * stores)

    def say(self, row):
        """What is told to a row of words."""
        if not isinstance(row, str):
            raise NoSay("no text")
        words = row.split(" ")
        if words[0] not in ROWS:
            raise NoSay("no row begins with this word")
        action = ROWS[words[0]]
        return action(self.house, words)
