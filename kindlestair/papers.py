"""Papers: to each question the claim that is true, with a paper that the checker takes.

Each question is first asked of the function that answers it, which refuses what isn't as told.
"""

from kindlestair.amounts import with_store
from kindlestair.leasts import least
from kindlestair.rests import rest
from kindlestair.standings import is_standing, spare_of
from kindlestair.tables import Table
from kindlestair.ways import row_down, row_for, row_to


def claim_of(word, web, gives, *told):
    """A claim of this word."""
    return (word, web.stores, web.hearths, gives, *told)


def apart_paper(web, gives, one, other):
    """The paper that shows two standings to have unlike rests."""
    left, stay = rest(web, gives, one), rest(web, gives, other)
    table = Table(web, gives)
    table.ask_rest(spare_of(web, gives, left), left)
    table.ask_rest(spare_of(web, gives, stay), stay)
    return row_down(web, gives, one), left, row_down(web, gives, other), stay, table.told()


def never_paper(web, gives, one):
    """The paper that shows the rest of a standing, and what is reached over it."""
    left = rest(web, gives, one)
    spare = spare_of(web, gives, left)
    table = Table(web, gives)
    table.ask_rest(spare, left)
    table.ask_over(spare, left)
    return row_down(web, gives, one), left, table.told()


def stays_paper(web, gives, one):
    """The paper that shows the rest of a standing."""
    left = rest(web, gives, one)
    table = Table(web, gives)
    table.ask_rest(spare_of(web, gives, left), left)
    return row_down(web, gives, one), left, table.told()


def parting_paper(web, gives, one, other, store):
    """The paper that shows both to be apart by one less of the store; None where then one of both is no standing."""
    if gives[store] == 0:
        return None
    fewer = with_store(gives, store, gives[store] - 1)
    if not is_standing(web, fewer, one) or not is_standing(web, fewer, other):
        return None
    return apart_paper(web, fewer, one, other)


def paper_leads(web, gives, one, other):
    """Whether the one standing leads to the other: the claim leads or apart, with its paper."""
    row = row_to(web, gives, one, other)
    if row is not None:
        return claim_of("leads", web, gives, one, other), row
    return claim_of("apart", web, gives, one, other), apart_paper(web, gives, one, other)


def paper_burns(web, gives, one, name):
    """Whether the named hearth can come to burn: the claim burns or never, with its paper."""
    row = row_for(web, gives, one, name)
    if row is not None:
        return claim_of("burns", web, gives, one, name), row
    return claim_of("never", web, gives, one, name), never_paper(web, gives, one)


def paper_goes(web, gives, one, name):
    """Whether the named hearth can be dark: the claim goes or stays, with its paper."""
    left = rest(web, gives, one)
    # This refuses a name of no hearth of the web.
    web.hearth_of(name)
    if name in left:
        return claim_of("stays", web, gives, one, name), stays_paper(web, gives, one)
    if name in one:
        return claim_of("goes", web, gives, one, name), row_down(web, gives, one)
    return claim_of("goes", web, gives, one, name), ()


def paper_least(web, gives, one, other, store):
    """The least number of the store by which both lead to one another: the claim least with its paper, or None."""
    number = least(web, gives, one, other, store)
    if number is None:
        return None
    by = with_store(gives, store, number)
    paper = (row_to(web, by, one, other), parting_paper(web, by, one, other, store))
    return claim_of("least", web, by, one, other, store), paper
