"""Small webs: those that have so few standings that all of them can be gone through."""

from kindlestair.bounds import SMALL
from kindlestair.errors import Cold, TooMany, Wanting
from kindlestair.needs import Needs
from kindlestair.rests import rest_of
from kindlestair.standings import check_gives, check_standing, check_web, first_wanting
from kindlestair.switches import KINDLE, OUT, done


def check_small(web):
    """NoWeb of what is no Web, TooMany of one that isn't small."""
    check_web(web)
    if len(web) > SMALL:
        raise TooMany(len(web))


def all_standings(web, gives):
    """All standings, rising."""
    found = [()]
    for name in sorted(web.names()):
        more = [names + (name,) for names in found]
        found = found + [names for names in more if first_wanting(web, gives, names) is None]
    return sorted(found)


def rests(web, gives):
    """All rests of the web's standings, rising."""
    check_small(web)
    check_gives(web, gives)
    needs = Needs(web, gives)
    return tuple(sorted({rest_of(needs, web, gives, standing) for standing in all_standings(web, gives)}))


def lot(web, gives, standing):
    """All standings to which this one leads, rising."""
    check_small(web)
    check_gives(web, gives)
    check_standing(web, gives, standing)
    needs = Needs(web, gives)
    left = rest_of(needs, web, gives, standing)
    return tuple([other for other in all_standings(web, gives) if rest_of(needs, web, gives, other) == left])


def switches_from(web, gives, standing):
    """All switches that can be done, each with the standing behind it."""
    found = []
    for name in web.names():
        switch = (OUT if name in standing else KINDLE, name)
        try:
            found.append((switch, done(web, gives, standing, switch)))
        except (Cold, Wanting):
            continue
    return found


def one_switch_on(web, gives, rows, edge):
    """The standings that are first come to by one switch from those of the edge; their rows are put into `rows`."""
    found = []
    for standing in edge:
        for switch, then in switches_from(web, gives, standing):
            if then not in rows:
                rows[then] = rows[standing] + (switch,)
                found.append(then)
    return found


def fewest(web, gives, one, other):
    """A row of the fewest switches from the one standing to the other, None where none goes there."""
    check_small(web)
    check_gives(web, gives)
    check_standing(web, gives, one)
    check_standing(web, gives, other)
    rows = {one: ()}
    edge = [one]
    while edge and other not in rows:
        edge = one_switch_on(web, gives, rows, edge)
    return rows.get(other)
