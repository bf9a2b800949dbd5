"""Plain searches, switch by switch, over all standings: slow, short, and made without the package's own ways."""

import itertools


def drawn(hearths, names, stores):
    rows = [hungers for name, hungers, _ in hearths if name in names]
    return tuple([sum([row[store] for row in rows]) for store in range(stores)])


def fits(hearths, names, gives):
    return all([many <= most for many, most in zip(drawn(hearths, names, len(gives)), gives)])


def rising(names):
    return tuple(sorted(names))


def standings(hearths, gives):
    """All standings, as rising tuples."""
    names = sorted(hearth[0] for hearth in hearths)
    rows = [row for many in range(len(names) + 1) for row in itertools.combinations(names, many)]
    return [row for row in rows if fits(hearths, row, gives)]


def one_switch(hearths, burning, switched, sources=frozenset()):
    """What burns behind each single switch of the hearths told; sources burn, too."""
    for name, _, feeders in hearths:
        if name in switched and (not feeders or any(feeder in burning or feeder in sources for feeder in feeders)):
            yield burning ^ {name}


def led_to(hearths, gives, burning, switched=None, sources=frozenset()):
    """The set of all sets of burning ones to which these lead; sources burn and draw nothing."""
    if switched is None:
        switched = {hearth[0] for hearth in hearths} - sources
    start = frozenset(burning)
    seen, todo = {start}, [start]
    while todo:
        for then in one_switch(hearths, todo.pop(), switched, sources):
            if then not in seen and fits(hearths, then, gives):
                seen.add(then)
                todo.append(then)
    return seen


def in_order(hearths, names):
    return tuple(hearth[0] for hearth in hearths if hearth[0] in names)


def reached(hearths, gives, over):
    found = led_to(hearths, gives, (), sources=frozenset(over))
    return in_order(hearths, set().union(*found))


def alone(hearths, gives, over):
    found = led_to(hearths, gives, (), sources=frozenset(over))
    return in_order(hearths, {name for burning in found for name in burning if len(burning) == 1})


def loose(hearths, gives, standing):
    """Those put out by a switch that comes ahead of all other switches of the standing's hearths."""
    feeders_of = {name: feeders for name, _, feeders in hearths}
    found = set()
    for burning in led_to(hearths, gives, standing, switched=set(feeders_of) - set(standing)):
        for name in standing:
            if not feeders_of[name] or any(feeder in burning for feeder in feeders_of[name]):
                found.add(name)
    return in_order(hearths, found)


def all_loose(hearths, gives):
    """The loose ones of each standing."""
    return {standing: loose(hearths, gives, standing) for standing in standings(hearths, gives)}


def rests(loose_of, standing):
    """All that is left at last, whichever loose ones are taken out first."""
    ends, todo, seen = set(), [standing], set()
    while todo:
        here = todo.pop()
        if here in seen:
            continue
        seen.add(here)
        if not loose_of[here]:
            ends.add(here)
        todo += [rising(set(here) - {name}) for name in loose_of[here]]
    return ends


def lots(hearths, gives):
    """For each standing the number of the lot of those that lead to one another."""
    number = {}
    for at, standing in enumerate(standings(hearths, gives)):
        if standing not in number:
            for burning in led_to(hearths, gives, standing):
                number[rising(burning)] = at
    return number


def all_may_burn(hearths, gives):
    """For each standing what burns in some one of its lot."""
    number = lots(hearths, gives)
    burning_in = {at: set() for at in number.values()}
    for standing, at in number.items():
        burning_in[at] |= set(standing)
    return {standing: in_order(hearths, burning_in[at]) for standing, at in number.items()}


def lots_by_number(hearths, gives, store):
    """For each number from 0 to 60 in the place of what the store gives the lots of all standings."""
    total = sum([hungers[store] for _, hungers, _ in hearths])
    rows = []
    for number in range(61):
        # More than all hearths draw together does as that.
        same = rows[-1] if number > total else lots(hearths, gives[:store] + (number,) + gives[store + 1:])
        rows.append(same)
    return rows


def led_by(rows, one, other):
    """The numbers by which both are standings that lead to one another."""
    return [number for number, lot in enumerate(rows) if one in lot and other in lot and lot[one] == lot[other]]


def freed(hearths, gives, standing):
    """Whether the names are a standing that leads to that in which nothing burns."""
    return fits(hearths, standing, gives) and frozenset() in led_to(hearths, gives, standing)


def freeing(hearths, gives, standing):
    return in_order(hearths, [name for name in standing if freed(hearths, gives, set(standing) - {name})])


def sparks(hearths, gives, standing):
    dark = [hearth[0] for hearth in hearths if hearth[0] not in standing]
    return in_order(hearths, [name for name in dark if freed(hearths, gives, {*standing, name})])
