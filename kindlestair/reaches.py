"""Reaches: what comes to burn over hearths that stay burning."""

from kindlestair.needs import GROUND, Needs
from kindlestair.standings import check_gives, check_names, check_web


def check_reach(web, gives, over):
    """Refuses what is no web, no gives of it, or no names of it, in this order."""
    check_web(web)
    check_gives(web, gives)
    check_names(web, over)


def extras(web, over):
    """The names of all hearths but those of `over`, in the web's order."""
    return [name for name in web.names() if name not in over]


def reached(web, gives, *, over=()):
    """All that come to burn over those of `over` by extras that draw at most `gives`, in the web's order."""
    check_reach(web, gives, over)
    needs = Needs(web, gives)
    return tuple([name for name in extras(web, over) if needs.reaches_over(name, over, gives)])


def alone(web, gives, *, over=()):
    """All that can be left burning alone of the extras, in the web's order."""
    check_reach(web, gives, over)
    needs = Needs(web, gives)
    sources = (GROUND, *over)
    return tuple([
        name for name in extras(web, over)
        if any([needs.left_alone(name, source, gives) for source in sources])
    ])
