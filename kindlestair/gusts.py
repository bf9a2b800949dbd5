"""Gusts and sparks that free a standing: behind them everything can be put out by switches."""

from kindlestair.amounts import within
from kindlestair.needs import Needs
from kindlestair.rests import rest_of
from kindlestair.standings import check_asked, put_in, spare_of, taken_out


def is_free(needs, web, gives, standing):
    """Whether the standing leads to that in which nothing burns."""
    return rest_of(needs, web, gives, standing) == ()


def freeing(web, gives, standing):
    """The hearths of the standing by whose gust a free one comes, in the web's order."""
    check_asked(web, gives, standing)
    needs = Needs(web, gives)
    burning = [name for name in web.names() if name in standing]
    return tuple([name for name in burning if is_free(needs, web, gives, taken_out(standing, name))])


def sparks(web, gives, standing):
    """The dark hearths for which enough is left and by whose kindling, over whatever, a free one comes, in order."""
    check_asked(web, gives, standing)
    needs = Needs(web, gives)
    spare = spare_of(web, gives, standing)
    fitting = [name for name in web.names() if name not in standing and within(web.hungers(name), spare)]
    return tuple([name for name in fitting if is_free(needs, web, gives, put_in(standing, name))])
