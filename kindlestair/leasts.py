"""Leasts: the least that a store may give, so that two standings lead to one another."""

from kindlestair.amounts import larger, with_store, within
from kindlestair.bounds import MOST_GIVEN
from kindlestair.errors import NoStore
from kindlestair.needs import Needs
from kindlestair.rests import are_together
from kindlestair.standings import check_gives, check_names, check_web, drawn
from kindlestair.webs import is_whole


def check_least(web, gives, one, other, store):
    """Refuses what is no Web, no gives, no names of it or no store of it, in this order."""
    check_web(web)
    check_gives(web, gives)
    check_names(web, one)
    check_names(web, other)
    if not is_whole(store, 0, web.stores - 1):
        raise NoStore("no number of a store of this web")


def least_between(needs, web, most, one, other, store, low):
    """The least number from `low` on by which both lead to one another; by `most` they do."""
    high = most[store]
    # More never parts what less has led together, so half of the numbers fall out with each question.
    while low < high:
        middle = (low + high) // 2
        if are_together(needs, web, with_store(most, store, middle), one, other):
            high = middle
        else:
            low = middle + 1
    return low


def least_of(web, gives, one, other, store):
    """The least number in the place of what the store gives by which both lead to one another; None where none does."""
    hungers = larger(drawn(web, one), drawn(web, other))
    most = with_store(gives, store, MOST_GIVEN)
    if not within(hungers, most):
        return None
    needs = Needs(web, most)
    if not are_together(needs, web, most, one, other):
        return None
    return least_between(needs, web, most, one, other, store, hungers[store])


def least(web, gives, one, other, store):
    """The least number from 0 to 60 that may stand in the place of what the store gives; None where none does."""
    check_least(web, gives, one, other, store)
    return least_of(web, gives, one, other, store)
