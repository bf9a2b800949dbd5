"""Switches: hearths kindled and put out, one behind the other."""

from kindlestair.errors import Burns, Cold, Dark, NoRow, NoSwitch, Wanting
from kindlestair.standings import check_asked, first_wanting, is_name_of, put_in, taken_out

KINDLE = "kindle"
OUT = "out"


def is_switch(web, thing):
    """Whether a thing of any kind is a switch of a hearth of the web."""
    if not isinstance(thing, tuple) or len(thing) != 2 or not isinstance(thing[0], str):
        return False
    return thing[0] in (KINDLE, OUT) and is_name_of(web, thing[1])


def check_fire(web, standing, name):
    """Cold where no feeder of the hearth burns and it doesn't stand on the ground."""
    feeders = web.feeders(name)
    if feeders and not any([feeder in standing for feeder in feeders]):
        raise Cold(name)


def check_dark(standing, name):
    """Burns where the hearth does."""
    if name in standing:
        raise Burns(name)


def check_burns(standing, name):
    """Dark where the hearth is."""
    if name not in standing:
        raise Dark(name)


def lit(web, gives, standing, name):
    """The standing with one more, over whatever; Wanting where it is none."""
    burning = put_in(standing, name)
    store = first_wanting(web, gives, burning)
    if store is not None:
        raise Wanting(store)
    return burning


def kindled(web, gives, standing, name):
    """The standing behind the kindling of a hearth."""
    check_dark(standing, name)
    check_fire(web, standing, name)
    return lit(web, gives, standing, name)


def put_out(web, standing, name):
    """The standing behind the putting out of a hearth."""
    check_burns(standing, name)
    check_fire(web, standing, name)
    return taken_out(standing, name)


def done(web, gives, standing, switch):
    """The standing behind a thing of any kind, where it is a switch that can be done."""
    if not is_switch(web, switch):
        raise NoSwitch("no switch of a hearth of this web")
    word, name = switch
    if word == KINDLE:
        return kindled(web, gives, standing, name)
    return put_out(web, standing, name)


def switched(web, gives, standing, switch):
    """The standing behind one switch."""
    check_asked(web, gives, standing)
    return done(web, gives, standing, switch)


def gone(web, gives, standing, row):
    """The standing behind a tuple of switches, done one behind the other."""
    check_asked(web, gives, standing)
    if not isinstance(row, tuple):
        raise NoRow(None)
    burning = standing
    for place, switch in enumerate(row):
        try:
            burning = done(web, gives, burning, switch)
        except (NoSwitch, Burns, Dark, Cold, Wanting):
            raise NoRow(place) from None
    return burning
