"""Stairs: how many steps of feeders lead to a hearth."""

from kindlestair.standings import check_names, check_web


def steps(web, *, over=()):
    """For each hearth in order the fewest steps of feeders that lead to it from one of `over`, or from the ground."""
    check_web(web)
    check_names(web, over)
    found = {}
    # One pass does, as feeders always stand ahead.
    for name in web.names():
        if name in over:
            found[name] = 0
        else:
            found[name] = 1 + min([found[feeder] for feeder in web.feeders(name)], default=0)
    return tuple([found[name] for name in web.names()])
