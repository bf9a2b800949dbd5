import unittest

from kindlestair.amounts import larger, least_ones, less, plus, with_store, within


class Amounts(unittest.TestCase):
    def test_sums_store_by_store(self):
        self.assertEqual(plus((1, 2, 3), (4, 0, 6)), (5, 2, 9))
        self.assertEqual(less((1, 2, 3), (4, 0, 3)), (-3, 2, 0))
        self.assertEqual(larger((1, 5, 3), (4, 0, 3)), (4, 5, 3))

    def test_another_number_for_one_store(self):
        self.assertEqual(with_store((1, 2, 3), 0, 9), (9, 2, 3))
        self.assertEqual(with_store((1, 2, 3), 1, 9), (1, 9, 3))
        self.assertEqual(with_store((1, 2, 3), 2, 9), (1, 2, 9))
        self.assertEqual(with_store((1,), 0, 0), (0,))

    def test_within(self):
        self.assertIs(within((1, 2), (1, 2)), True)
        self.assertIs(within((1, 3), (1, 2)), False)
        self.assertIs(within((2, 0), (1, 2)), False)

    def test_least_ones(self):
        amounts = [(3, 1), (1, 3), (2, 2), (2, 3), (3, 1), (4, 0), (9, 9), (1, 4)]
        self.assertEqual(least_ones(amounts, (60, 60)), [(1, 3), (2, 2), (3, 1), (4, 0)])
        self.assertEqual(least_ones(amounts, (3, 2)), [(2, 2), (3, 1)])
        self.assertEqual(least_ones(amounts, (0, 60)), [])
        self.assertEqual(least_ones([], (60,)), [])


if __name__ == "__main__":
    unittest.main()
