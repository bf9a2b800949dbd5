"""Webs: hearths in an order, each over feeders ahead of it or on the ground."""

from kindlestair.bounds import LONGEST_NAME, MOST, MOST_HUNGER, MOST_STORES
from kindlestair.errors import NoName, NoStores, NoWeb


def is_whole(thing, low, high):
    """Whether a thing of any kind is a whole number from low to high."""
    return isinstance(thing, int) and not isinstance(thing, bool) and low <= thing <= high


def is_name(thing):
    """Whether a thing of any kind is written as a hearth's name is."""
    if not isinstance(thing, str) or not 1 <= len(thing) <= LONGEST_NAME:
        return False
    return all(["a" <= sign <= "z" for sign in thing])


def are_hungers(thing, stores):
    """Whether a thing of any kind is a hearth's hungers, one for each store and not all 0."""
    if not isinstance(thing, tuple) or len(thing) != stores:
        return False
    if not all([is_whole(hunger, 0, MOST_HUNGER) for hunger in thing]):
        return False
    return any([hunger > 0 for hunger in thing])


def are_feeders(thing, ahead):
    """Whether a thing of any kind is a tuple of unlike names of hearths ahead."""
    if not isinstance(thing, tuple):
        return False
    # Only texts are looked up: other things may be ones that no dict and no set can take.
    if not all([isinstance(feeder, str) and feeder in ahead for feeder in thing]):
        return False
    return len(set(thing)) == len(thing)


def is_hearth(thing, stores, ahead):
    """Whether a thing of any kind is a hearth that may stand behind those ahead."""
    if not isinstance(thing, tuple) or len(thing) != 3:
        return False
    name, hungers, feeders = thing
    if not is_name(name) or name in ahead:
        return False
    return are_hungers(hungers, stores) and are_feeders(feeders, ahead)


def hearths_by_name(stores, hearths):
    """The dict of the hearths by their names; NoWeb of what are no hearths of one web."""
    if not isinstance(hearths, tuple) or len(hearths) > MOST:
        raise NoWeb(None)
    ahead = {}
    for place, hearth in enumerate(hearths):
        if not is_hearth(hearth, stores, ahead):
            raise NoWeb(place)
        ahead[hearth[0]] = hearth
    return ahead


def hearth_row(hearth):
    """The row of a web's text that tells one hearth."""
    name, hungers, feeders = hearth
    words = ["hearth", name] + [str(hunger) for hunger in hungers]
    if feeders:
        words += ["over"] + list(feeders)
    return " ".join(words)


class Web:
    """Hearths in an order that draw on the same stores; never changed once it is made."""

    def __init__(self, stores, hearths=()):
        if not is_whole(stores, 1, MOST_STORES):
            raise NoStores("no number of stores")
        self.by_name = hearths_by_name(stores, hearths)
        self.stores = stores
        self.hearths = hearths

    def hearth_of(self, name):
        """The hearth of a name; NoName of a thing of any kind that is none of the web's."""
        if not isinstance(name, str) or name not in self.by_name:
            raise NoName(name)
        return self.by_name[name]

    def names(self):
        """The names of all hearths, in order."""
        return tuple([hearth[0] for hearth in self.hearths])

    def hungers(self, name):
        """What the hearth draws, of each store."""
        return self.hearth_of(name)[1]

    def feeders(self, name):
        """The names of those that the hearth stands over; () where it stands on the ground."""
        return self.hearth_of(name)[2]

    def above(self, name):
        """All that have the hearth as a feeder, or one that does, and so on, in order."""
        below = [self.hearth_of(name)[0]]
        # One pass does, as feeders always stand ahead.
        for other, hungers, feeders in self.hearths:
            if any([feeder in below for feeder in feeders]):
                below.append(other)
        return tuple(below[1:])

    def built(self, hearth):
        """The web with one more hearth behind; this one stays as it is."""
        return Web(self.stores, self.hearths + (hearth,))

    def __eq__(self, other):
        return isinstance(other, Web) and self.stores == other.stores and self.hearths == other.hearths

    def __len__(self):
        return len(self.hearths)

    def __str__(self):
        return "\n".join([f"stores {self.stores}"] + [hearth_row(hearth) for hearth in self.hearths])

    def __repr__(self):
        return f"Web({self.stores}, {len(self.hearths)})"
