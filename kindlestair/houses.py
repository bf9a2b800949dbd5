"""Houses: a web, what its stores give and what burns, changed by deeds that can be taken back.

A house's state is a tuple (web, gives, what burns); a deed makes another one of it and changes none.
"""

from kindlestair.amounts import with_store
from kindlestair.bounds import MOST_GIVEN
from kindlestair.errors import Burns, Cold, Dark, NoBack, NoDeed, NoLog, NoWeb, Wanting
from kindlestair.needs import Needs
from kindlestair.rests import may_burn_of, rest_of
from kindlestair.standings import check_gives, check_web, drawn, is_name_of, spare_of, taken_out
from kindlestair.switches import check_burns, check_dark, done, lit
from kindlestair.webs import is_whole


def check_parts(deed, many):
    """NoDeed of a deed that hasn't so many parts."""
    if len(deed) != many:
        raise NoDeed("not as many parts as such a deed has")


def named_in(state, deed):
    """The name of a deed that has one thing behind its word; NoDeed of what is no name of the web."""
    check_parts(deed, 2)
    if not is_name_of(state[0], deed[1]):
        raise NoDeed("no name of a hearth of this house")
    return deed[1]


def behind_switch(state, deed):
    """The state behind a hearth's kindling or putting out."""
    named_in(state, deed)
    web, gives, burning = state
    return web, gives, done(web, gives, burning, deed)


def behind_gust(state, deed):
    """The state behind a gust, which puts out one that burns, over whatever."""
    name = named_in(state, deed)
    web, gives, burning = state
    check_burns(burning, name)
    return web, gives, taken_out(burning, name)


def behind_spark(state, deed):
    """The state behind a spark, which kindles one that is dark, over whatever."""
    name = named_in(state, deed)
    web, gives, burning = state
    check_dark(burning, name)
    return web, gives, lit(web, gives, burning, name)


def behind_give(state, deed):
    """The state in which a store gives so much."""
    check_parts(deed, 3)
    store, many = deed[1:]
    web, gives, burning = state
    if not is_whole(store, 0, web.stores - 1) or not is_whole(many, 0, MOST_GIVEN):
        raise NoDeed("no store of this house, or nothing that one can give")
    if drawn(web, burning)[store] > many:
        raise Wanting(store)
    return web, with_store(gives, store, many), burning


def behind_build(state, deed):
    """The state with one more hearth, dark at first."""
    check_parts(deed, 2)
    web, gives, burning = state
    return web.built(deed[1]), gives, burning


DEEDS = {
    "kindle": behind_switch,
    "out": behind_switch,
    "gust": behind_gust,
    "spark": behind_spark,
    "give": behind_give,
    "build": behind_build,
}


def behind_deed(state, deed):
    """The state behind a thing of any kind, where it is a deed that can be done."""
    if not isinstance(deed, tuple) or not deed or not isinstance(deed[0], str) or deed[0] not in DEEDS:
        raise NoDeed("no tuple with the word of a deed ahead")
    action = DEEDS[deed[0]]
    return action(state, deed)


class House:
    """A web, what its stores give, and what burns, at first nothing."""

    def __init__(self, web, gives):
        check_web(web)
        check_gives(web, gives)
        self.state = (web, gives, ())
        # Each deed that isn't taken back, with the state ahead of it.
        self.past = []

    def do(self, deed):
        """Does one deed."""
        self.do_all((deed,))

    def do_all(self, deeds):
        """Does all of a tuple of deeds, one behind the other, or none where one is refused."""
        if not isinstance(deeds, tuple):
            raise NoDeed("no tuple of deeds")
        # Nothing is kept until all are done: so what is refused changes nothing.
        state, past = self.state, []
        for deed in deeds:
            past.append((deed, state))
            state = behind_deed(state, deed)
        self.state = state
        self.past += past

    def back(self):
        """Takes back the last deed that isn't taken back."""
        if not self.past:
            raise NoBack("no deed is left to take back")
        self.state = self.past.pop()[1]

    def web(self):
        """The web as it is built now."""
        return self.state[0]

    def gives(self):
        """What each store gives now."""
        return self.state[1]

    def burning(self):
        """The standing: what burns now."""
        return self.state[2]

    def spare(self):
        """What is left of each store."""
        web, gives, burning = self.state
        return spare_of(web, gives, burning)

    def rest(self):
        """What never goes out by switches."""
        web, gives, burning = self.state
        return rest_of(Needs(web, gives), web, gives, burning)

    def may_burn(self):
        """All that can come to burn by switches, in the web's order."""
        web, gives, burning = self.state
        return may_burn_of(Needs(web, gives), web, gives, burning)

    def log(self):
        """All deeds that aren't taken back."""
        return tuple([deed for deed, ahead in self.past])

    def __eq__(self, other):
        return isinstance(other, House) and self.state == other.state

    def __len__(self):
        return len(self.state[2])

    def __str__(self):
        return " ".join(self.state[2] or ("-",))

    def __repr__(self):
        return f"House({len(self.state[0])}, {self})"


def replayed(web, gives, deeds):
    """The house to which these deeds were done."""
    house = House(web, gives)
    if not isinstance(deeds, tuple):
        raise NoLog(None)
    for place, deed in enumerate(deeds):
        try:
            house.do(deed)
        except (NoDeed, NoWeb, Burns, Dark, Cold, Wanting):
            raise NoLog(place) from None
    return house
