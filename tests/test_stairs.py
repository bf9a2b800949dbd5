import itertools
import unittest

import grown
from kindlestair.reaches import reached
from kindlestair.stairs import steps
from kindlestair.webs import Web


def plain_steps(hearths, over):
    """Round by round: whatever stands over what was found in the round ahead."""
    found = {name: 0 for name in over}
    for number in range(1, len(hearths) + 1):
        for name, _, feeders in hearths:
            if name not in found and (number == 1 and not feeders or any(found.get(f) == number - 1 for f in feeders)):
                found[name] = number
    return tuple([found[hearth[0]] for hearth in hearths])


class Steps(unittest.TestCase):
    def test_a_stair(self):
        web = Web(1, grown.stair([(1,)] * 5))
        self.assertEqual(steps(web), (1, 2, 3, 4, 5))
        self.assertEqual(steps(web, over=()), (1, 2, 3, 4, 5))
        self.assertEqual(steps(web, over=("a",)), (0, 1, 2, 3, 4))
        self.assertEqual(steps(web, over=("c",)), (1, 2, 0, 1, 2))
        self.assertEqual(steps(web, over=("b", "e")), (1, 0, 1, 2, 0))
        self.assertEqual(steps(web, over=("a", "b", "c", "d", "e")), (0, 0, 0, 0, 0))

    def test_a_tree(self):
        self.assertEqual(steps(Web(*grown.TREE[:2])), (1, 2, 2, 3, 3, 3, 4))
        self.assertEqual(steps(Web(*grown.TREE[:2]), over=("right",)), (1, 2, 0, 3, 3, 1, 2))

    def test_several_feeders(self):
        self.assertEqual(steps(Web(*grown.FEEDERS[:2])), (1, 1, 2, 3, 2, 3))
        self.assertEqual(steps(Web(*grown.FEEDERS[:2]), over=("w",)), (1, 1, 2, 0, 1, 1))

    def test_a_web_without_hearths(self):
        self.assertEqual(steps(Web(1)), ())
        self.assertEqual(steps(Web(3), over=()), ())

    def test_what_they_draw_does_not_count(self):
        self.assertEqual(steps(Web(1, grown.stair([(9,)] * 16))), tuple(range(1, 17)))

    def test_grown_webs(self):
        for stores, hearths, _ in grown.small_webs(60):
            names = sorted([hearth[0] for hearth in hearths])
            for many in range(min(4, len(names) + 1)):
                for over in list(itertools.combinations(names, many))[::5]:
                    told = steps(Web(stores, hearths), over=over)
                    self.assertEqual(told, plain_steps(hearths, over))
                    self.assertIsInstance(told, tuple)

    def test_reached_are_those_to_which_few_enough_steps_lead(self):
        for number in range(30):
            web = Web(1, grown.grown(number, 3 + number % 14, 1, most=1, near=1 + number % 3))
            for over in ((), web.names()[2:3], tuple(sorted(web.names()[1:3]))):
                told = dict(zip(web.names(), steps(web, over=over)))
                for many in range(6):
                    self.assertEqual(
                        reached(web, (many,), over=over),
                        tuple([name for name in web.names() if 0 < told[name] <= 2 ** many - 1]))

    def test_by_names(self):
        web = Web(1, grown.stair([(1,)] * 3))
        self.assertEqual(steps(web=web, over=("b",)), (1, 0, 1))
        self.assertEqual(steps(over=("b",), web=web), (1, 0, 1))
        with self.assertRaises(TypeError):
            steps(web, ("b",))


if __name__ == "__main__":
    unittest.main()
