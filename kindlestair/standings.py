"""Standings: hearths that burn together by what the stores give."""

from kindlestair.amounts import less, plus
from kindlestair.bounds import MOST_GIVEN
from kindlestair.errors import NoGives, NoStanding, NoWeb
from kindlestair.webs import Web, is_whole


def are_gives(web, thing):
    """Whether a thing of any kind is what the web's stores can give."""
    if not isinstance(thing, tuple) or len(thing) != web.stores:
        return False
    return all([is_whole(many, 0, MOST_GIVEN) for many in thing])


def is_name_of(web, thing):
    """Whether a thing of any kind is the name of a hearth of the web."""
    # Only texts are compared: other things may be ones that can't be.
    return isinstance(thing, str) and thing in web.names()


def are_names(web, thing):
    """Whether a thing of any kind is a rising tuple of names of the web."""
    if not isinstance(thing, tuple) or not all([is_name_of(web, name) for name in thing]):
        return False
    return all([here < there for here, there in zip(thing, thing[1:])])


def drawn(web, names):
    """What names of the web draw together."""
    total = (0,) * web.stores
    for name in names:
        total = plus(total, web.hungers(name))
    return total


def spare_of(web, gives, names):
    """What names of the web leave of what the stores give."""
    return less(gives, drawn(web, names))


def taken_out(standing, name):
    """The standing without the hearth."""
    return tuple([other for other in standing if other != name])


def put_in(standing, name):
    """The standing's names with one more, rising."""
    return tuple(sorted(standing + (name,)))


def first_wanting(web, gives, names):
    """The first store of which the names draw too much, None where there is none."""
    for store, left in enumerate(spare_of(web, gives, names)):
        if left < 0:
            return store
    return None


def check_web(web):
    """NoWeb of what is no Web."""
    if not isinstance(web, Web):
        raise NoWeb(None)


def check_gives(web, gives):
    """NoGives of what the web's stores can't give."""
    if not are_gives(web, gives):
        raise NoGives("not what these stores can give")


def check_names(web, names):
    """NoStanding of what is no rising tuple of names of the web."""
    if not are_names(web, names):
        raise NoStanding(None)


def check_standing(web, gives, standing):
    """NoStanding of what is no standing by these gives."""
    check_names(web, standing)
    store = first_wanting(web, gives, standing)
    if store is not None:
        raise NoStanding(store)


def check_asked(web, gives, standing):
    """Refuses what is no Web, no gives of it, or no standing by these, in this order."""
    check_web(web)
    check_gives(web, gives)
    check_standing(web, gives, standing)


def draws(web, names):
    """What the names draw together, for each store one number."""
    check_web(web)
    check_names(web, names)
    return drawn(web, names)


def is_standing(web, gives, thing):
    """Whether a thing of any kind is a standing: names that draw no more than the stores give."""
    check_web(web)
    check_gives(web, gives)
    return are_names(web, thing) and first_wanting(web, gives, thing) is None
