"""Rests: what is left of a standing where all that can be taken out cleanly is."""

from kindlestair.needs import Needs
from kindlestair.standings import check_gives, check_standing, check_web, spare_of


def is_loose(needs, web, gives, standing, name):
    """Whether some row of switches puts the hearth out ahead of all others of the standing."""
    feeders = web.feeders(name)
    if not feeders or any([feeder in standing for feeder in feeders]):
        return True
    others = [other for other in standing if other != name]
    spare = spare_of(web, gives, standing)
    return any([needs.reaches_over(feeder, others, spare) for feeder in feeders])


def loose_of(needs, web, gives, standing):
    """The loose hearths of a standing, in the web's order."""
    return [name for name in web.names() if name in standing and is_loose(needs, web, gives, standing, name)]


def taken_out(standing, name):
    """The standing without the hearth."""
    return tuple([other for other in standing if other != name])


def rest_of(needs, web, gives, standing):
    """The rest of a standing."""
    found = loose_of(needs, web, gives, standing)
    while found:
        # Any loose one does: the rest is the same whichever are taken first.
        standing = taken_out(standing, found[-1])
        found = loose_of(needs, web, gives, standing)
    return standing


def loose(web, gives, standing):
    """The hearths of the standing that can be put out ahead of all others of it, in the web's order."""
    check_web(web)
    check_gives(web, gives)
    check_standing(web, gives, standing)
    return tuple(loose_of(Needs(web, gives), web, gives, standing))


def rest(web, gives, standing):
    """The standing that is left where loose ones are taken out until none is."""
    check_web(web)
    check_gives(web, gives)
    check_standing(web, gives, standing)
    return rest_of(Needs(web, gives), web, gives, standing)


def leads(web, gives, one, other):
    """Whether some row of switches goes from the one standing to the other."""
    check_web(web)
    check_gives(web, gives)
    check_standing(web, gives, one)
    check_standing(web, gives, other)
    needs = Needs(web, gives)
    return rest_of(needs, web, gives, one) == rest_of(needs, web, gives, other)


def may_burn(web, gives, standing):
    """All that burn in some standing to which this one leads, in the web's order."""
    check_web(web)
    check_gives(web, gives)
    check_standing(web, gives, standing)
    needs = Needs(web, gives)
    left = rest_of(needs, web, gives, standing)
    spare = spare_of(web, gives, left)
    return tuple([name for name in web.names() if name in left or needs.reaches_over(name, left, spare)])
