"""The house's papers with pieces of the claim or the paper changed: whatever the checker takes is so."""

import random
import unittest

import grown
import plain
from kindlestair.checker import holds
from kindlestair.papers import paper_burns, paper_goes, paper_leads, paper_least
from kindlestair.webs import Web

WORDS = ("leads", "apart", "burns", "never", "goes", "stays", "least", "kindle", "out", "")
OTHERS = (None, True, False, (), [], 0, 1, "", b"a", {})


def house_papers(stores, hearths, gives, source):
    """Some papers of each kind that the house tells of a web."""
    web, standings = Web(stores, hearths), plain.standings(hearths, gives)
    found = []
    for _ in range(3):
        one, other = source.choice(standings), source.choice(standings)
        name, store = source.choice(web.names()), source.randrange(stores)
        found += [paper_leads(web, gives, one, other), paper_burns(web, gives, one, name),
                  paper_goes(web, gives, one, name), paper_least(web, gives, one, other, store)]
    return [told for told in found if told is not None]


def changed(thing, names, source):
    """The thing with one piece of it changed, left out, told twice or put in."""
    if isinstance(thing, tuple) and thing and source.random() < 0.85:
        at, way = source.randrange(len(thing)), source.random()
        if way < 0.65:
            return thing[:at] + (changed(thing[at], names, source),) + thing[at + 1:]
        if way < 0.8:
            return thing[:at] + thing[at + 1:]
        if way < 0.9:
            return thing[:at] + (thing[at],) + thing[at:]
        return thing[:at] + (source.choice(names),) + thing[at:]
    if isinstance(thing, int) and source.random() < 0.8:
        return thing + source.choice((-1, 1))
    if isinstance(thing, str) and source.random() < 0.8:
        return source.choice((*names, *WORDS))
    return source.choice(OTHERS)


def burning_sets(hearths, gives, one):
    return [set(burning) for burning in plain.led_to(hearths, gives, one)]


def lead_together(hearths, gives, one, other):
    if min(gives) < 0 or not plain.fits(hearths, one, gives) or not plain.fits(hearths, other, gives):
        return False
    return set(other) in burning_sets(hearths, gives, one)


def is_so(claim):
    """Whether a claim is true, by a plain search."""
    word, _, hearths, gives, one, told = claim[:6]
    if word == "least":
        store = claim[6]
        fewer = gives[:store] + (gives[store] - 1,) + gives[store + 1:]
        return lead_together(hearths, gives, one, told) and not lead_together(hearths, fewer, one, told)
    led = burning_sets(hearths, gives, one)
    return {
        "leads": lambda: set(told) in led,
        "apart": lambda: plain.fits(hearths, told, gives) and set(told) not in led,
        "burns": lambda: any(told in burning for burning in led),
        "never": lambda: all(told not in burning for burning in led),
        "goes": lambda: any(told not in burning for burning in led),
        "stays": lambda: all(told in burning for burning in led),
    }[word]()


class Changed(unittest.TestCase):
    def papers(self):
        source = random.Random(23)
        for stores, hearths, gives in grown.small_webs(150, largest=6):
            if hearths and len(plain.standings(hearths, gives)) <= 64:
                names = [hearth[0] for hearth in hearths]
                for claim, paper in house_papers(stores, hearths, gives, source):
                    yield claim, paper, names, source

    def test_whatever_is_taken_is_so(self):
        taken = {word: 0 for word in WORDS[:7]}
        refused = 0
        for claim, paper, names, source in self.papers():
            self.assertIs(holds(claim, paper), True)
            self.assertTrue(is_so(claim), claim)
            for _ in range(40):
                pair = [claim, paper]
                for _ in range(source.choice((1, 1, 2))):
                    at = source.randrange(2)
                    pair[at] = changed(pair[at], names, source)
                answer = holds(*pair)
                self.assertIsInstance(answer, bool)
                if answer:
                    self.assertTrue(is_so(pair[0]), pair)
                    taken[pair[0][0]] += 1
                refused += not answer
        self.assertGreater(min(taken.values()), 10, taken)
        self.assertGreater(refused, 10000)


if __name__ == "__main__":
    unittest.main()
