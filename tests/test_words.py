import unittest

from kindlestair.words import hearth_told, is_number


class Words(unittest.TestCase):
    def test_numbers(self):
        for word in ("0", "1", "9", "10", "60", "100", "123456789", "999999999"):
            self.assertIs(is_number(word), True, word)
        for word in ("", "00", "01", "-1", "+1", " 1", "1 ", "1.0", "a", "1a", "1000000000", "0123456789", "\u0661"):
            self.assertIs(is_number(word), False, word)

    def test_hearths(self):
        self.assertEqual(hearth_told("hearth a 1".split(" ")), ("a", (1,), ()))
        self.assertEqual(hearth_told("hearth a 0 10 200 over b a b".split(" ")), ("a", (0, 10, 200), ("b", "a", "b")))
        self.assertEqual(hearth_told("hearth over 1 over over".split(" ")), ("over", (1,), ("over",)))
        for row in ("", "hearth", "hearth a", "hearth a b", "hearth 1 1", "a a 1", "hearth a 1 over", "hearth a 1 b",
                    "hearth a over b", "hearth a 1 over 1", "hearth a 1 over b 1", "hearth a 01", "hearth a 1 "):
            self.assertIsNone(hearth_told(row.split(" ")), row)


if __name__ == "__main__":
    unittest.main()
