"""Ways: the rows of switches that lead from one standing to another."""

from kindlestair.climbs import climb_over, shortened, undone
from kindlestair.needs import Needs
from kindlestair.rests import loose_of
from kindlestair.standings import check_asked, check_standing, spare_of, taken_out
from kindlestair.switches import OUT


def row_out(needs, web, gives, standing, name):
    """A row that puts out a loose hearth of the standing and leaves all else as it was."""
    feeders = web.feeders(name)
    if not feeders or any([feeder in standing for feeder in feeders]):
        return [(OUT, name)]
    others = taken_out(standing, name)
    spare = spare_of(web, gives, standing)
    rows = [climb_over(needs, feeder, others, spare) for feeder in feeders]
    ahead = min([row for row in rows if row is not None], key=len)
    return ahead + [(OUT, name)] + undone(ahead)


def way_down(needs, web, gives, standing):
    """A row from the standing to its rest, and the rest."""
    row = []
    found = loose_of(needs, web, gives, standing)
    while found:
        # The last one is the highest: those beneath it still help to put it out.
        row += row_out(needs, web, gives, standing, found[-1])
        standing = taken_out(standing, found[-1])
        found = loose_of(needs, web, gives, standing)
    return row, standing


def row_down(web, gives, standing):
    """A row that goes from the standing to its rest."""
    check_asked(web, gives, standing)
    row, left = way_down(Needs(web, gives), web, gives, standing)
    return tuple(shortened(row))


def row_to(web, gives, one, other):
    """A row that goes from the one standing to the other, None where it doesn't lead there."""
    check_asked(web, gives, one)
    check_standing(web, gives, other)
    needs = Needs(web, gives)
    row, left = way_down(needs, web, gives, one)
    back, stay = way_down(needs, web, gives, other)
    if left != stay:
        return None
    return tuple(shortened(row + undone(back)))


def row_for(web, gives, standing, name):
    """A row from the standing behind which the named hearth burns, None where none does."""
    check_asked(web, gives, standing)
    # This refuses a name of no hearth of the web.
    web.hearth_of(name)
    if name in standing:
        return ()
    needs = Needs(web, gives)
    row, left = way_down(needs, web, gives, standing)
    ahead = climb_over(needs, name, left, spare_of(web, gives, left))
    if ahead is None:
        return None
    return tuple(shortened(row + ahead))
