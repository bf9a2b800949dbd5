"""Rests: what is left of a standing where all that can be taken out cleanly is."""

from kindlestair.needs import Needs
from kindlestair.standings import check_asked, check_standing, spare_of, taken_out


def is_loose(needs, web, gives, standing, name):
    """Whether some row of switches puts the hearth out ahead of all others of the standing."""
    feeders = web.feeders(name)
    if not feeders or any([feeder in standing for feeder in feeders]):
        return True
    others = taken_out(standing, name)
    spare = spare_of(web, gives, standing)
    return any([needs.reaches_over(feeder, others, spare) for feeder in feeders])


def loose_of(needs, web, gives, standing):
    """The loose hearths of a standing, in the web's order."""
    return [name for name in web.names() if name in standing and is_loose(needs, web, gives, standing, name)]


def rest_of(needs, web, gives, standing):
    """The rest of a standing."""
    found = loose_of(needs, web, gives, standing)
    while found:
        # Any loose one does: the rest is the same whichever are taken first.
        standing = taken_out(standing, found[-1])
        found = loose_of(needs, web, gives, standing)
    return standing


def are_together(needs, web, gives, one, other):
    """Whether the one standing leads to the other."""
    return rest_of(needs, web, gives, one) == rest_of(needs, web, gives, other)


def may_burn_of(needs, web, gives, standing):
    """All that burn in some standing to which this one leads, in the web's order."""
    left = rest_of(needs, web, gives, standing)
    spare = spare_of(web, gives, left)
    return tuple([name for name in web.names() if name in left or needs.reaches_over(name, left, spare)])


def loose(web, gives, standing):
    """The hearths of the standing that can be put out ahead of all others of it, in the web's order."""
    check_asked(web, gives, standing)
    return tuple(loose_of(Needs(web, gives), web, gives, standing))


def rest(web, gives, standing):
    """The standing that is left where loose ones are taken out until none is."""
    check_asked(web, gives, standing)
    return rest_of(Needs(web, gives), web, gives, standing)


def leads(web, gives, one, other):
    """Whether some row of switches goes from the one standing to the other."""
    check_asked(web, gives, one)
    check_standing(web, gives, other)
    return are_together(Needs(web, gives), web, gives, one, other)


def may_burn(web, gives, standing):
    """All that burn in some standing to which this one leads, in the web's order."""
    check_asked(web, gives, standing)
    return may_burn_of(Needs(web, gives), web, gives, standing)
