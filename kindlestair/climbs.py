"""Climbs: rows of switches by which a hearth comes to burn over sources that stay burning.

They follow the needs: where one of a hearth's needs is within the spare, there is such a row.
"""

from kindlestair.amounts import less
from kindlestair.needs import GROUND
from kindlestair.switches import KINDLE, OUT


def contrary(switch):
    """The switch that undoes this one."""
    word, name = switch
    return (OUT if word == KINDLE else KINDLE, name)


def undone(row):
    """The row that goes back where this one began."""
    return [contrary(switch) for switch in reversed(row)]


def without(row, names):
    """The row without the switches of the names; where these burn throughout it can be done as well."""
    return [switch for switch in row if switch[1] not in names]


def shortened(row):
    """The row without switches that are undone at once."""
    kept = []
    for switch in row:
        if kept and kept[-1] == contrary(switch):
            kept.pop()
        else:
            kept.append(switch)
    return kept


def straight_climb(needs, name, source, spare):
    """A row that kindles a reached hearth last, by a feeder reached beside its hungers; None where there is none."""
    if needs.stands_over(name, source):
        return [(KINDLE, name)]
    left = less(spare, needs.hunger_of[name])
    for feeder in needs.beneath[name]:
        if needs.reaches(feeder, source, left):
            return climb(needs, feeder, source, left) + [(KINDLE, name)]
    return None


def climb_alone(needs, name, source, spare):
    """A row behind which the hearth burns alone over the source; asked only where it can be left so."""
    row = straight_climb(needs, name, source, spare)
    return row + undone(row[:-1])


def climb(needs, name, source, spare):
    """A row behind which the hearth burns, over the source, by the spare; asked only where it is reached so."""
    row = straight_climb(needs, name, source, spare)
    if row is not None:
        return row
    for middle in needs.between(source, name):
        left = less(spare, needs.hunger_of[middle])
        if needs.left_alone(middle, source, spare) and needs.rises(name, middle, left):
            behind = climb(needs, name, middle, left)
            return climb_alone(needs, middle, source, spare) + without(behind, [source])
    return without(climb(needs, name, GROUND, spare), [source])


def climb_over(needs, name, sources, spare):
    """A row behind which the hearth burns, over all the sources, by the spare; None where it isn't reached so."""
    for source in [*sources, GROUND]:
        if needs.reaches(name, source, spare):
            return without(climb(needs, name, source, spare), sources)
    return None
