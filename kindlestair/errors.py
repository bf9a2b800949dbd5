"""The refusals. Each stands under its base alone, so that catching one never catches another."""


class HearthError(ValueError):
    """What was handed in isn't as told."""


class NoStores(HearthError):
    """No number of stores."""


class NoWeb(HearthError):
    """No web; `place` is the number of the first hearth that doesn't fit, or None."""

    def __init__(self, place):
        HearthError.__init__(self, f"no web (place: {place})")
        self.place = place


class NoName(HearthError):
    """No name of a hearth of the web; `name` is what was handed in."""

    def __init__(self, name):
        # The thing may be of any kind, so the message doesn't show it.
        HearthError.__init__(self, "no name of a hearth of this web")
        self.name = name


class NoText(HearthError):
    """No text of a web; `row` is the number of the first row that isn't so written."""

    def __init__(self, row):
        HearthError.__init__(self, f"no text of a web (row: {row})")
        self.row = row


class NoStanding(HearthError):
    """No standing; `store` is the first store of which too much is drawn, or None."""

    def __init__(self, store):
        HearthError.__init__(self, f"no standing (store: {store})")
        self.store = store


class NoGives(HearthError):
    """Not what stores can give."""


class NoSwitch(HearthError):
    """No switch of the web."""


class NoRow(HearthError):
    """No row of switches that can be done; `place` is the number of the first that can't, or None."""

    def __init__(self, place):
        HearthError.__init__(self, f"no row of switches (place: {place})")
        self.place = place


class NoStore(HearthError):
    """No number of a store."""


class NoDeed(HearthError):
    """No deed of the house."""


class NoLog(HearthError):
    """No log of deeds; `place` is the number of the first that is refused, or None."""

    def __init__(self, place):
        HearthError.__init__(self, f"no log of deeds (place: {place})")
        self.place = place


class NoSay(HearthError):
    """No row that the desk knows."""


class StateError(RuntimeError):
    """What was asked is as told, but can't be done as things stand."""


class Burns(StateError):
    """The hearth `name` burns already."""

    def __init__(self, name):
        StateError.__init__(self, f"burns already: {name}")
        self.name = name


class Dark(StateError):
    """The hearth `name` is dark already."""

    def __init__(self, name):
        StateError.__init__(self, f"dark already: {name}")
        self.name = name


class Cold(StateError):
    """No feeder of the hearth `name` burns, nor does it stand on the ground."""

    def __init__(self, name):
        StateError.__init__(self, f"no feeder burns: {name}")
        self.name = name


class Wanting(StateError):
    """There is too little of the store `store`."""

    def __init__(self, store):
        StateError.__init__(self, f"too little of store {store}")
        self.store = store


class NoBack(StateError):
    """There is no deed to take back."""


class TooMany(StateError):
    """The web has too many hearths for this: `many`."""

    def __init__(self, many):
        StateError.__init__(self, f"too many hearths: {many}")
        self.many = many
