"""What holds over the whole program: all that is told hangs on the web, the stores and what burns alone."""

import itertools
import random
import unittest

import grown
import plain
from desks import rebuilt
from houses import lived, state
from kindlestair.checker import holds
from kindlestair.gusts import freeing, sparks
from kindlestair.houses import House, replayed
from kindlestair.leasts import least
from kindlestair.papers import paper_burns, paper_goes, paper_leads, paper_least
from kindlestair.reaches import alone, reached
from kindlestair.rests import leads, loose, may_burn, rest
from kindlestair.small import fewest, lot, rests
from kindlestair.stairs import steps
from kindlestair.standings import draws, is_standing
from kindlestair.switches import gone
from kindlestair.ways import row_down, row_for, row_to
from kindlestair.webs import Web
from kindlestair.webtexts import read_web


def pieces(things, many):
    return things[::1 + len(things) // many]


def all_told(web, gives, standing, other):
    """All that is told of a web by its gives, of one standing and another one."""
    names = web.names()
    store = web.stores - 1
    told = [str(web), draws(web, standing), is_standing(web, gives, other), steps(web, over=standing)]
    told += [ask(web, gives, over=standing) for ask in (reached, alone)]
    told += [ask(web, gives, standing) for ask in (loose, rest, may_burn, row_down, freeing, sparks)]
    told += [ask(web, gives, standing, other) for ask in (leads, row_to, paper_leads)]
    told += [ask(web, gives, standing, other, store) for ask in (least, paper_least)]
    told += [ask(web, gives, standing, name) for ask in (row_for, paper_burns, paper_goes) for name in names[:3]]
    if len(web) <= 8:
        told += [rests(web, gives), lot(web, gives, standing), fewest(web, gives, standing, other)]
    return told


class Promise(unittest.TestCase):
    """Of any two standings a row is told, or a table by which nothing of their unlike rests ever goes out."""

    def test_of_any_two_standings(self):
        led = parted = 0
        for stores, hearths, gives in grown.small_webs(45, largest=6):
            web, lots = Web(stores, hearths), plain.lots(hearths, gives)
            for one, other in pieces(list(itertools.product(lots, repeat=2)), 40):
                row = row_to(web, gives, one, other)
                claim, paper = paper_leads(web, gives, one, other)
                self.assertIs(holds(claim, paper), True)
                if row is not None:
                    self.assertEqual(gone(web, gives, one, row), other)
                    self.assertEqual(rest(web, gives, one), rest(web, gives, other))
                    led += 1
                else:
                    self.assertNotEqual(lots[one], lots[other])
                    self.assertEqual((claim[0], paper[1], paper[3]),
                                     ("apart", rest(web, gives, one), rest(web, gives, other)))
                    self.assertNotEqual(paper[1], paper[3])
                    parted += 1
        self.assertGreater(min(led, parted), 400)

    def test_what_can_burn_is_what_the_table_tells_from_the_rest(self):
        for stores, hearths, gives in grown.small_webs(40, largest=6):
            web = Web(stores, hearths)
            burning_in = plain.all_may_burn(hearths, gives)
            for standing in pieces(list(burning_in), 10):
                left = rest(web, gives, standing)
                spare = tuple([by - many for by, many in zip(gives, draws(web, left))])
                told = {*left, *reached(web, spare, over=left)}
                self.assertEqual(told, set(burning_in[standing]))
                for name in web.names():
                    claim, paper = paper_burns(web, gives, standing, name)
                    self.assertEqual(claim[0], "burns" if name in told else "never")
                    self.assertIs(holds(claim, paper), True)

    def test_no_claim_is_taken_with_its_contrary(self):
        contrary = {"leads": "apart", "apart": "leads", "burns": "never", "never": "burns", "goes": "stays",
                    "stays": "goes"}
        for stores, hearths, gives in grown.small_webs(20, largest=5):
            web = Web(stores, hearths)
            standings = pieces(plain.standings(hearths, gives), 6)
            papers = [paper_leads(web, gives, one, other) for one in standings for other in standings[:3]]
            papers += [ask(web, gives, one, name) for ask in (paper_burns, paper_goes) for one in standings
                       for name in web.names()]
            for claim, _ in papers:
                for _, paper in papers:
                    self.assertIs(holds((contrary[claim[0]], *claim[1:]), paper), False)

    def test_ways_of_steps(self):
        """Where each draws one of one store that gives N, ways of feeders of up to 2 ** N - 1 steps are gone."""
        for number in range(40):
            shape = grown.grown(number, 4 + number % 13, 1, near=1 + number % 3, grounds=0.05)
            web = Web(1, tuple([(name, (1,), feeders) for name, _, feeders in shape]))
            for by in range(6):
                near = [name for name, many in zip(web.names(), steps(web)) if many <= 2 ** by - 1]
                self.assertEqual(reached(web, (by,)), tuple(near))
                self.assertEqual(may_burn(web, (by,), ()), tuple(near))
                for name in web.names()[::3]:
                    claim, paper = paper_burns(web, (by,), (), name)
                    self.assertEqual(claim[0], "burns" if name in near else "never")
                    self.assertIs(holds(claim, paper), True)


class WhateverCameAhead(unittest.TestCase):
    def test_a_web_read_from_a_text(self):
        for stores, hearths, gives in grown.small_webs(30)[::2]:
            web = Web(stores, hearths)
            standings = plain.standings(hearths, gives)
            for one, other in pieces(list(zip(standings, reversed(standings))), 3):
                self.assertEqual(all_told(read_web(str(web)), gives, one, other), all_told(web, gives, one, other))

    def test_a_house_behind_deeds_of_all_kinds(self):
        for number in range(70):
            made, ahead = lived(number)
            web, gives, burning = state(made)
            new = Web(web.stores, web.hearths)
            self.assertEqual(all_told(web, gives, burning, ()), all_told(new, gives, burning, ()))
            self.assertEqual((made.rest(), made.may_burn()), (rest(new, gives, burning), may_burn(new, gives, burning)))
            start = ahead[0][:2] if ahead else (web, gives)
            again = replayed(*start, made.log())
            self.assertEqual(all_told(*state(again), ()), all_told(web, gives, burning, ()))

    def test_by_the_desk(self):
        for number in range(40):
            made, ahead = lived(number)
            web, gives, burning = state(made)
            said = rebuilt(made, ahead[0][:2] if ahead else (web, gives))
            again = read_web(said.say("web").replace("; ", "\n"))
            names = () if said.say("burning") == "-" else tuple(said.say("burning").split(" "))
            spare = [int(word) for word in said.say("spare").split(" ")]
            by = tuple([left + many for left, many in zip(spare, draws(again, names))])
            self.assertEqual(all_told(again, by, names, ()), all_told(web, gives, burning, ()))

    def test_asked_in_any_order(self):
        rows = []
        for stores, hearths, gives in grown.small_webs(12)[::3]:
            standings = plain.standings(hearths, gives)
            rows.append((Web(stores, hearths), gives, standings[-1], standings[len(standings) // 2]))
        first = [all_told(*row) for row in rows]
        self.assertEqual([all_told(*row) for row in reversed(rows)], first[::-1])

    def test_all_burn_alike_by_sparks_or_by_switches(self):
        for stores, hearths, gives in grown.small_webs(20)[::3]:
            web = Web(stores, hearths)
            for standing in pieces(plain.standings(hearths, gives), 6):
                sparked, switched = House(web, gives), House(web, gives)
                sparked.do_all(tuple([("spark", name) for name in standing]))
                row = row_to(web, gives, (), standing)
                if row is not None:
                    switched.do_all(row)
                    self.assertEqual(sparked, switched)
                    self.assertEqual((sparked.rest(), sparked.may_burn()), (switched.rest(), switched.may_burn()))


def side_by_side(one, other):
    """Two rows of stores, hearths and gives as one, each drawing on stores of its own; names of the other are new."""
    stores, hearths, gives = one
    more, others, by = other
    left = [(name, hungers + (0,) * more, feeders) for name, hungers, feeders in hearths]
    right = [(new(name), (0,) * stores + hungers, tuple(map(new, feeders))) for name, hungers, feeders in others]
    # Turn by turn, so that neither stands ahead of the other as a whole.
    turns = [hearth for pair in itertools.zip_longest(left, right) for hearth in pair if hearth is not None]
    return stores + more, tuple(turns), gives + by


def new(name):
    return "z" + name[:5]


def pairs_of_webs():
    rows = [row for row in grown.small_webs(60, largest=4) if row[1]]
    rows = [row for row in rows if len(row[1]) <= 4]
    found = [(one, other) for one, other in zip(rows, rows[1:] + rows[:1]) if one[0] + other[0] <= 3]
    return found[:30]


class SideBySide(unittest.TestCase):
    def both(self, standing, other):
        return tuple(sorted(standing + tuple(map(new, other))))

    def cases(self):
        """Rows of one web and standings of it, another one, and both as one."""
        source = random.Random(5)
        for one, other in pairs_of_webs():
            ours, theirs = plain.standings(*one[1:]), plain.standings(*other[1:])
            stores, hearths, gives = side_by_side(one, other)
            for _ in range(12):
                yield ((Web(*one[:2]), one[2]), source.choices(ours, k=2), (Web(*other[:2]), other[2]),
                       source.choices(theirs, k=2), (Web(stores, hearths), gives))

    def union(self, ask, one, standing, other, standing_there, both):
        told = set(ask(*one, standing)) | {new(name) for name in ask(*other, standing_there)}
        return set(ask(*both, self.both(standing, standing_there))), told

    def test_what_each_tells(self):
        tried = 0
        for one, (here, _), other, (there, _), both in self.cases():
            for ask in (loose, rest, may_burn):
                self.assertEqual(*self.union(ask, one, here, other, there, both))
            for ask in (reached, alone):
                self.assertEqual(set(ask(*both, over=self.both(here, there))),
                                 set(ask(*one, over=here)) | {new(name) for name in ask(*other, over=there)})
            tried += 1
        self.assertGreater(tried, 150)

    def test_what_leads_where(self):
        for one, (here, then), other, (there, after), both in self.cases():
            start, end = self.both(here, there), self.both(then, after)
            led = leads(*one, here, then) and leads(*other, there, after)
            self.assertIs(leads(*both, start, end), led)
            row = row_to(*both, start, end)
            self.assertIs(row is not None, led)
            if led:
                self.assertEqual(gone(*both, start, row), end)
            self.assertIs(holds(*paper_leads(*both, start, end)), True)

    def test_gusts_and_sparks(self):
        for one, (here, _), other, (there, _), both in self.cases():
            start = self.both(here, there)
            for ask in (freeing, sparks):
                # A gust or spark on one side frees both where the other side is free already.
                ours = ask(*one, here) if rest(*other, there) == () else ()
                theirs = ask(*other, there) if rest(*one, here) == () else ()
                self.assertEqual(set(ask(*both, start)), {*ours, *map(new, theirs)})

    def test_leasts(self):
        for one, (here, then), other, (there, after), both in self.cases():
            start, end = self.both(here, there), self.both(then, after)
            for store in range(one[0].stores):
                number = least(*one, here, then, store) if leads(*other, there, after) else None
                self.assertEqual(least(*both, start, end, store), number)
            for store in range(other[0].stores):
                number = least(*other, there, after, store) if leads(*one, here, then) else None
                self.assertEqual(least(*both, start, end, one[0].stores + store), number)

    def test_small_webs(self):
        for one, (here, then), other, (there, after), both in itertools.islice(self.cases(), 0, None, 6):
            start, end = self.both(here, there), self.both(then, after)
            pairs = itertools.product(rests(*one), rests(*other))
            self.assertEqual(rests(*both), tuple(sorted([self.both(*pair) for pair in pairs])))
            pairs = itertools.product(lot(*one, here), lot(*other, there))
            self.assertEqual(lot(*both, start), tuple(sorted([self.both(*pair) for pair in pairs])))
            rows = (fewest(*one, here, then), fewest(*other, there, after))
            told = fewest(*both, start, end)
            self.assertEqual(None if told is None else len(told), None if None in rows else len(rows[0]) + len(rows[1]))


def called(name):
    """Another name, by which the order of names is another one, too."""
    return "".join([chr(ord("a") + ord("z") - ord(letter)) for letter in name[::-1]])


def shuffled(hearths, source):
    """The hearths in another order that keeps feeders ahead."""
    left, found = list(hearths), []
    while left:
        ready = [hearth for hearth in left if not set(hearth[2]) & {other[0] for other in left}]
        found.append(source.choice(ready))
        left.remove(found[-1])
    return tuple([(name, hungers, tuple(source.sample(feeders, len(feeders)))) for name, hungers, feeders in found])


class Otherwise(unittest.TestCase):
    """Hearths called otherwise, or in another order, tell the same but for names and order."""

    def same(self, hearths, others, gives, rename, *, ordered):
        web, there = Web(len(gives), hearths), Web(len(gives), others)
        standings = plain.standings(hearths, gives)

        def names(row):
            return tuple(map(rename, row))

        def alike(told, found):
            self.assertEqual(*((names(told), found) if ordered else (set(names(told)), set(found))))

        for one, other in pieces(list(zip(standings, reversed(standings))), 6):
            here, then = tuple(sorted(names(one))), tuple(sorted(names(other)))
            for ask in (loose, may_burn, freeing, sparks):
                alike(ask(web, gives, one), ask(there, gives, here))
            for ask in (reached, alone):
                alike(ask(web, gives, over=one), ask(there, gives, over=here))
            self.assertEqual(rest(there, gives, here), tuple(sorted(names(rest(web, gives, one)))))
            self.assertEqual(dict(zip(names(web.names()), steps(web, over=one))),
                             dict(zip(there.names(), steps(there, over=here))))
            self.assertIs(leads(there, gives, here, then), leads(web, gives, one, other))
            for store in range(web.stores):
                self.assertEqual(least(there, gives, here, then, store), least(web, gives, one, other, store))
            self.assertEqual(paper_leads(there, gives, here, then)[0][0], paper_leads(web, gives, one, other)[0][0])
            for name in web.names()[:3]:
                for ask in (paper_burns, paper_goes):
                    told = ask(there, gives, here, rename(name))
                    self.assertEqual(told[0][0], ask(web, gives, one, name)[0][0])
                    self.assertIs(holds(*told), True)
            rows = fewest(web, gives, one, other), fewest(there, gives, here, then)
            self.assertEqual(*[None if row is None else len(row) for row in rows])
            self.assertEqual(lot(there, gives, here),
                             tuple(sorted([tuple(sorted(names(row))) for row in lot(web, gives, one)])))
        self.assertEqual(rests(there, gives), tuple(sorted([tuple(sorted(names(row))) for row in rests(web, gives)])))

    def test_called_otherwise(self):
        for stores, hearths, gives in grown.small_webs(40, largest=8)[::2]:
            others = tuple([(called(name), hungers, tuple(map(called, feeders))) for name, hungers, feeders in hearths])
            self.same(hearths, others, gives, called, ordered=True)

    def test_in_another_order(self):
        source = random.Random(11)
        for stores, hearths, gives in grown.small_webs(40, largest=8)[1::2]:
            self.same(hearths, shuffled(hearths, source), gives, str, ordered=False)


if __name__ == "__main__":
    unittest.main()
