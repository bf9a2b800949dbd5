"""The checker: takes a claim with its paper, or doesn't.

It imports nothing, so that no fault in the rest of the package can make it take what isn't so.
"""

MOST_HEARTHS = 16
MOST_STORES = 3
MOST_HUNGER = 9
MOST_GIVEN = 60
LONGEST_NAME = 6
KINDLE = "kindle"
OUT = "out"
NONE = ""


def is_whole(thing, low, high):
    """Whether a thing of any kind is a whole number from low to high."""
    return isinstance(thing, int) and not isinstance(thing, bool) and low <= thing <= high


def are_wholes(thing, many, high):
    """Whether a thing of any kind is a tuple of so many whole numbers from 0 to high."""
    if not isinstance(thing, tuple) or len(thing) != many:
        return False
    return all([is_whole(part, 0, high) for part in thing])


def is_row_of(thing, many):
    """Whether a thing of any kind is a tuple of so many parts."""
    return isinstance(thing, tuple) and len(thing) == many


def is_known(thing, names):
    """Whether a thing of any kind is one of the names; other things than texts may be ones that can't be compared."""
    return isinstance(thing, str) and thing in names


def are_known(thing, names):
    """Whether a thing of any kind is a tuple of such names."""
    return isinstance(thing, tuple) and all([is_known(part, names) for part in thing])


def are_rising(parts):
    """Whether each of the parts is more than the one ahead."""
    return all([here < there for here, there in zip(parts, parts[1:])])


def is_name(thing):
    """Whether a thing of any kind is written as a hearth's name is."""
    if not isinstance(thing, str) or not 1 <= len(thing) <= LONGEST_NAME:
        return False
    return all(["a" <= sign <= "z" for sign in thing])


def is_hearth(thing, stores, ahead):
    """Whether a thing of any kind is a hearth that may stand behind those ahead."""
    if not is_row_of(thing, 3):
        return False
    name, hungers, feeders = thing
    if not is_name(name) or name in ahead:
        return False
    if not are_wholes(hungers, stores, MOST_HUNGER) or sum(hungers) == 0:
        return False
    return are_known(feeders, ahead) and len(set(feeders)) == len(feeders)


def web_of(stores, hearths):
    """The dict of the hearths by their names, in order; None of what is no web."""
    if not is_whole(stores, 1, MOST_STORES) or not isinstance(hearths, tuple) or len(hearths) > MOST_HEARTHS:
        return None
    web = {}
    for hearth in hearths:
        if not is_hearth(hearth, stores, web):
            return None
        web[hearth[0]] = hearth
    return web


def hungers_of(web, name):
    """What a hearth of the web draws."""
    return web[name][1]


def feeders_of(web, name):
    """The feeders of a hearth of the web."""
    return web[name][2]


def less(one, other):
    """What is left of the one amounts without the others."""
    return tuple([here - there for here, there in zip(one, other)])


def is_enough(amounts):
    """Whether none of the amounts is below 0."""
    return all([many >= 0 for many in amounts])


def left_by(web, gives, names):
    """What the names leave of what the stores give; below 0 where they draw too much."""
    left = gives
    for name in names:
        left = less(left, hungers_of(web, name))
    return left


def is_standing(web, gives, thing):
    """Whether a thing of any kind is a standing."""
    return are_known(thing, web) and are_rising(thing) and is_enough(left_by(web, gives, thing))


def is_switch(web, thing):
    """Whether a thing of any kind is a switch of a hearth of the web."""
    return is_row_of(thing, 2) and is_known(thing[0], (KINDLE, OUT)) and is_known(thing[1], web)


def behind_switch(web, gives, standing, switch):
    """The standing behind a thing of any kind, None where it is no switch or can't be done."""
    if not is_switch(web, switch):
        return None
    word, name = switch
    feeders = feeders_of(web, name)
    if feeders and not any([feeder in standing for feeder in feeders]):
        return None
    if (word == OUT) != (name in standing):
        return None
    if word == OUT:
        return tuple([other for other in standing if other != name])
    burning = tuple(sorted(standing + (name,)))
    return burning if is_standing(web, gives, burning) else None


def behind_row(web, gives, standing, row):
    """The standing behind a thing of any kind, None where it is no row of switches or can't be done."""
    if not isinstance(row, tuple):
        return None
    burning = standing
    for switch in row:
        burning = behind_switch(web, gives, burning, switch)
        if burning is None:
            return None
    return burning


def goes_to(web, gives, one, row, other):
    """Whether the row goes from the one standing to the other; row and other are of any kind."""
    return is_standing(web, gives, other) and behind_row(web, gives, one, row) == other


def is_entry(web, stores, thing):
    """Whether a thing of any kind is written as an entry of a table is."""
    if not is_row_of(thing, 3):
        return False
    spare, over, names = thing
    if not are_wholes(spare, stores, MOST_GIVEN) or not isinstance(over, str):
        return False
    if over != NONE and over not in web:
        return False
    return are_known(names, web) and are_rising(names) and over not in names


def hearth_holds(web, table, spare, over, name):
    """Whether an entry has what it must have by one hearth that may be left alone."""
    left = less(spare, hungers_of(web, name))
    if not is_enough(left):
        return True
    feeders = feeders_of(web, name)
    if feeders and over not in feeders:
        if (left, over) not in table:
            return False
        if not any([feeder in table[(left, over)] for feeder in feeders]):
            return True
    names = table[(spare, over)]
    if name not in names or (left, name) not in table:
        return False
    return all([other in names or other == over for other in table[(left, name)]])


def entry_holds(web, table, spare, over):
    """Whether an entry has all names that it must have, and the table all entries that it asks for."""
    return all([hearth_holds(web, table, spare, over, name) for name in web if name != over])


def table_of(web, stores, thing):
    """The dict of a table's names by spare and source; None of what is no table that holds."""
    if not isinstance(thing, tuple) or not all([is_entry(web, stores, entry) for entry in thing]):
        return None
    table = {(spare, over): names for spare, over, names in thing}
    if not are_rising(thing) or len(table) != len(thing):
        return None
    if not all([entry_holds(web, table, spare, over) for spare, over, names in thing]):
        return None
    return table


def reached_by(table, spare, sources):
    """The names that the table tells to be reached over the sources; None where an entry isn't there."""
    asked = [(spare, source) for source in sources or (NONE,)]
    if not all([key in table for key in asked]):
        return None
    return [name for key in asked for name in table[key]]


def is_rest(web, gives, table, standing):
    """Whether a standing is a rest by the table."""
    spare = left_by(web, gives, standing)
    for name in standing:
        feeders = feeders_of(web, name)
        if not feeders or any([feeder in standing for feeder in feeders]):
            return False
        found = reached_by(table, spare, [other for other in standing if other != name])
        if found is None or any([feeder in found for feeder in feeders]):
            return False
    return True


def leads_holds(web, gives, one, told, paper):
    """Whether the paper is a row from the one standing to the other."""
    return goes_to(web, gives, one, paper, told[0])


def burns_holds(web, gives, one, told, paper):
    """Whether the paper is a row behind which the named hearth burns."""
    burning = behind_row(web, gives, one, paper)
    return is_known(told[0], web) and burning is not None and told[0] in burning


def goes_holds(web, gives, one, told, paper):
    """Whether the paper is a row behind which the named hearth is dark."""
    burning = behind_row(web, gives, one, paper)
    return is_known(told[0], web) and burning is not None and told[0] not in burning


def apart_holds(web, gives, one, told, paper):
    """Whether the paper shows that both standings have rests, and that these are unlike."""
    if not is_standing(web, gives, told[0]) or not is_row_of(paper, 5):
        return False
    row, rest, back, stay, thing = paper
    if not goes_to(web, gives, one, row, rest) or not goes_to(web, gives, told[0], back, stay) or rest == stay:
        return False
    table = table_of(web, len(gives), thing)
    return table is not None and is_rest(web, gives, table, rest) and is_rest(web, gives, table, stay)


def table_for_rest(web, gives, one, paper):
    """The table of a paper that shows its second part to be a rest of the one standing; else None."""
    if not is_row_of(paper, 3) or not goes_to(web, gives, one, paper[0], paper[1]):
        return None
    table = table_of(web, len(gives), paper[2])
    if table is None or not is_rest(web, gives, table, paper[1]):
        return None
    return table


def never_holds(web, gives, one, told, paper):
    """Whether the paper shows that the named hearth is neither of the rest nor reached over it."""
    table = table_for_rest(web, gives, one, paper)
    if table is None or not is_known(told[0], web) or told[0] in paper[1]:
        return False
    found = reached_by(table, left_by(web, gives, paper[1]), paper[1])
    return found is not None and told[0] not in found


def stays_holds(web, gives, one, told, paper):
    """Whether the paper shows that the named hearth is of the rest."""
    table = table_for_rest(web, gives, one, paper)
    return table is not None and is_known(told[0], web) and told[0] in paper[1]


def least_holds(web, gives, one, told, paper):
    """Whether the paper shows that the one standing leads to the other, and by one less of the store doesn't."""
    other, store = told
    if not is_whole(store, 0, len(gives) - 1) or not is_row_of(paper, 2):
        return False
    if not goes_to(web, gives, one, paper[0], other):
        return False
    fewer = gives[:store] + (gives[store] - 1,) + gives[store + 1:]
    # Where the store gives 0 one less is below 0, and nothing is a standing by that.
    both = is_standing(web, fewer, one) and is_standing(web, fewer, other)
    if paper[1] is None:
        return not both
    return both and apart_holds(web, fewer, one, (other,), paper[1])


CLAIMS = {
    "leads": leads_holds,
    "burns": burns_holds,
    "goes": goes_holds,
    "apart": apart_holds,
    "never": never_holds,
    "stays": stays_holds,
    "least": least_holds,
}


def holds(claim, paper):
    """Whether the claim is taken with its paper; both are things of any kind."""
    if not isinstance(claim, tuple) or len(claim) not in (6, 7):
        return False
    word, stores, hearths, gives, one = claim[:5]
    if not isinstance(word, str) or word not in CLAIMS:
        return False
    if (word == "least") != (len(claim) == 7):
        return False
    web = web_of(stores, hearths)
    if web is None or not are_wholes(gives, stores, MOST_GIVEN) or not is_standing(web, gives, one):
        return False
    check = CLAIMS[word]
    return check(web, gives, one, claim[5:], paper)
