"""Needs: the least spares by which a hearth is reached, or left burning alone, over a source.

A hearth is reached by a spare just where one of its needs is within it. As needs are made of needs, no
standings are gone through, however many there are.
"""

from kindlestair.amounts import larger, least_ones, plus, within

# The source beneath those that stand on the ground; no hearth has this name.
GROUND = ""


class Needs:
    """The needs of one web's hearths, as far as they are within `most`; each is worked out when it is first asked."""

    def __init__(self, web, most):
        self.most = most
        self.hunger_of = {name: hungers for name, hungers, feeders in web.hearths}
        self.beneath = {name: feeders or (GROUND,) for name, hungers, feeders in web.hearths}
        self.over = {name: web.above(name) for name in web.names()}
        self.over[GROUND] = web.names()
        self.alone_found = {}
        self.rising_found = {}

    def between(self, source, name):
        """The hearths above the source that the named one is above, in the web's order."""
        return [middle for middle in self.over[source] if name in self.over[middle]]

    def stands_over(self, name, source):
        """Whether the hearth stands on the ground, which burns whatever the source is, or right over the source."""
        return GROUND in self.beneath[name] or source in self.beneath[name]

    def alone_needs(self, name, source):
        """The least spares by which the hearth can be left burning alone over the source."""
        asked = (name, source)
        if asked not in self.alone_found:
            self.alone_found[asked] = least_ones(self.alone_spares(name, source), self.most)
        return self.alone_found[asked]

    def alone_spares(self, name, source):
        """Spares by which the hearth can be left alone, the least ones among them."""
        hungers = self.hunger_of[name]
        if self.stands_over(name, source):
            return [hungers]
        # A feeder is reached beside the hearth's hungers: so what led to it can be taken back while the hearth burns.
        return [plus(hungers, need) for feeder in self.beneath[name] for need in self.needs(feeder, source)]

    def needs(self, name, source):
        """Spares by which the hearth is reached over the source, or from the ground, the least ones among them."""
        from_ground = self.rising_needs(name, GROUND)
        if source == GROUND or name not in self.over[source]:
            return from_ground
        return from_ground + self.rising_needs(name, source)

    def rising_needs(self, name, source):
        """The least spares by which the hearth is reached over hearths left alone, each above the one ahead.

        One that isn't above the one ahead could be left alone without it: then the row may begin on the ground.
        """
        asked = (name, source)
        if asked not in self.rising_found:
            self.rising_found[asked] = least_ones(self.rising_spares(name, source), self.most)
        return self.rising_found[asked]

    def rising_spares(self, name, source):
        """Spares by which the hearth is so reached, the least ones among them."""
        spares = list(self.alone_needs(name, source))
        for middle in self.between(source, name):
            behind = [plus(self.hunger_of[middle], need) for need in self.rising_needs(name, middle)]
            spares += [larger(need, then) for need in self.alone_needs(middle, source) for then in behind]
        return spares

    def left_alone(self, name, source, spare):
        """Whether the hearth can be left burning alone over the source by the spare, which is within `most`."""
        return any([within(need, spare) for need in self.alone_needs(name, source)])

    def rises(self, name, source, spare):
        """Whether the hearth is reached by the spare over hearths left alone, each above the one ahead."""
        return any([within(need, spare) for need in self.rising_needs(name, source)])

    def reaches(self, name, source, spare):
        """Whether the hearth is reached over the source by the spare, which is within `most`."""
        return any([within(need, spare) for need in self.needs(name, source)])

    def reaches_over(self, name, sources, spare):
        """Whether the hearth is reached over these sources: just where it is over one of them, or from the ground."""
        return any([self.reaches(name, source, spare) for source in (GROUND, *sources)])
