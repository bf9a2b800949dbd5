"""The sentences in brackets of point 8, and the last one of point 9, of what the package tells."""

import unittest

import grown
from kindlestair.reaches import alone, reached
from kindlestair.webs import Web

WIDE = [
    (stores, grown.grown(number, many, stores, most=most, near=near, grounds=0.1), gives)
    for number, (stores, many, most, near, gives) in enumerate((
        (1, 9, 1, 1, (3,)), (1, 12, 3, 2, (7,)), (1, 16, 9, 2, (20,)), (2, 10, 2, 2, (4, 4)), (2, 16, 3, 1, (8, 9)),
        (3, 11, 3, 2, (6, 6, 6)), (3, 16, 4, 2, (10, 9, 12)), (3, 16, 1, 1, (3, 2, 3)),
    ))
]


def some_webs():
    return [(Web(stores, hearths), gives) for stores, hearths, gives in grown.small_webs(60) + WIDE]


def less(gives, hungers):
    return tuple([many - hunger for many, hunger in zip(gives, hungers)])


def fits(hungers, gives):
    return all(hunger <= many for hunger, many in zip(hungers, gives))


def sources_of(web):
    """Some rows of names to ask over."""
    names = sorted(web.names())
    rows = [()] + [(name,) for name in names[:4]]
    return rows + [tuple(names[::2]), tuple(names[1:3])]


class Sentences(unittest.TestCase):
    def test_left_alone_just_where_it_is_told(self):
        for web, gives in some_webs():
            for over in sources_of(web)[:3]:
                found = []
                for name in web.names():
                    hungers, feeders = web.hungers(name), web.feeders(name)
                    if name in over or not fits(hungers, gives):
                        continue
                    left = reached(web, less(gives, hungers), over=over)
                    if not feeders or any(feeder in over or feeder in left for feeder in feeders):
                        found.append(name)
                self.assertEqual(alone(web, gives, over=over), tuple(found))

    def test_reached_just_where_it_is_told(self):
        for web, gives in some_webs():
            for over in sources_of(web)[:3]:
                left = alone(web, gives, over=over)
                found, as_well = set(left), set(left)
                for name in left:
                    spare = less(gives, web.hungers(name))
                    found |= set(reached(web, spare, over=(name,))) - set(over)
                    as_well |= set(reached(web, spare, over=tuple(sorted({*over, name}))))
                self.assertEqual(set(reached(web, gives, over=over)), found)
                self.assertEqual(set(reached(web, gives, over=over)), as_well)

    def test_over_several_is_over_one_of_them_but_these_themselves(self):
        for web, gives in some_webs():
            for over in sources_of(web):
                if over:
                    single = set().union(*[reached(web, gives, over=(name,)) for name in over]) - set(over)
                    self.assertEqual(set(reached(web, gives, over=over)), single)

    def test_the_ground_burns_beneath_all(self):
        for web, gives in some_webs():
            from_none = set(reached(web, gives))
            for over in sources_of(web):
                self.assertLessEqual(from_none - set(over), set(reached(web, gives, over=over)))

    def test_more_than_all_draw_does_as_that(self):
        for web, gives in some_webs():
            total = tuple([sum(row) for row in zip((0,) * web.stores, *[web.hungers(name) for name in web.names()])])
            if all(many <= 60 for many in total):
                for over in sources_of(web):
                    self.assertEqual(reached(web, total, over=over), reached(web, (60,) * web.stores, over=over))
                    self.assertEqual(reached(web, total, over=over), tuple([n for n in web.names() if n not in over]))

    def test_one_more_of_a_store_never_lets_less(self):
        for web, gives in some_webs():
            for store in range(web.stores):
                more = gives[:store] + (min(60, gives[store] + 1),) + gives[store + 1:]
                for over in sources_of(web)[:4]:
                    self.assertLessEqual(set(reached(web, gives, over=over)), set(reached(web, more, over=over)))
                    self.assertLessEqual(set(alone(web, gives, over=over)), set(alone(web, more, over=over)))

    def test_one_source_more_never_lets_less(self):
        for web, gives in some_webs():
            for over in sources_of(web)[:4]:
                for name in web.names():
                    more = tuple(sorted({*over, name}))
                    self.assertLessEqual(
                        set(reached(web, gives, over=over)) - {name}, set(reached(web, gives, over=more)))
                    self.assertLessEqual(set(alone(web, gives, over=over)) - {name}, set(alone(web, gives, over=more)))


def plain_steps(web, over):
    found = {}
    for name in web.names():
        feeders = web.feeders(name)
        found[name] = 0 if name in over else 1 + min([found[feeder] for feeder in feeders], default=0)
    return found


class AllDrawOne(unittest.TestCase):
    def test_just_those_to_which_at_most_so_many_steps_lead(self):
        webs = [grown.stair([(1,)] * many) for many in (1, 2, 3, 4, 7, 8, 15, 16)]
        webs += [grown.grown(number, 4 + number % 13, 1, most=1, near=1 + number % 4) for number in range(40)]
        for hearths in webs:
            web = Web(1, hearths)
            for over in sources_of(web):
                steps = plain_steps(web, over)
                for many in range(6):
                    told = tuple([n for n in web.names() if n not in over and steps[n] <= 2 ** many - 1])
                    self.assertEqual(reached(web, (many,), over=over), told)

    def test_the_edges_of_the_longest_stair(self):
        web = Web(1, grown.stair([(1,)] * 16))
        self.assertEqual(reached(web, (4,)), tuple(grown.LETTERS[:15]))
        self.assertEqual(reached(web, (5,)), tuple(grown.LETTERS))
        self.assertEqual(reached(web, (3,), over=("h",)), tuple(grown.LETTERS[:7] + grown.LETTERS[8:15]))


if __name__ == "__main__":
    unittest.main()
