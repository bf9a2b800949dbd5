import unittest

from kindlestair import bounds


class Bounds(unittest.TestCase):
    def test_the_bounds_of_the_interface(self):
        self.assertEqual((bounds.MOST, bounds.SMALL), (16, 8))
        self.assertEqual([isinstance(bound, int) for bound in (bounds.MOST, bounds.SMALL)], [True, True])


if __name__ == "__main__":
    unittest.main()
