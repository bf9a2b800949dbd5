import unittest

from kindlestair import errors

HEARTH_ERRORS = {
    "NoStores": None, "NoWeb": "place", "NoName": "name", "NoText": "row", "NoStanding": "store",
    "NoGives": None, "NoSwitch": None, "NoRow": "place", "NoStore": None, "NoDeed": None,
    "NoLog": "place", "NoSay": None,
}
STATE_ERRORS = {
    "Burns": "name", "Dark": "name", "Cold": "name", "Wanting": "store", "NoBack": None, "TooMany": "many",
}
FIELDS = {**HEARTH_ERRORS, **STATE_ERRORS}


def refusal(word):
    return getattr(errors, word)


class Errors(unittest.TestCase):
    def test_the_bases(self):
        self.assertEqual(errors.HearthError.__bases__, (ValueError,))
        self.assertEqual(errors.StateError.__bases__, (RuntimeError,))

    def test_each_stands_under_its_base(self):
        for word in HEARTH_ERRORS:
            self.assertEqual(refusal(word).__bases__, (errors.HearthError,), word)
        for word in STATE_ERRORS:
            self.assertEqual(refusal(word).__bases__, (errors.StateError,), word)

    def test_none_stands_under_another(self):
        for one in FIELDS:
            for other in FIELDS:
                if one != other:
                    self.assertFalse(issubclass(refusal(one), refusal(other)), (one, other))

    def test_all_are_defined_there(self):
        for word in list(FIELDS) + ["HearthError", "StateError"]:
            self.assertEqual(refusal(word).__module__, "kindlestair.errors")

    def test_fields(self):
        for word, field in FIELDS.items():
            if field is None:
                continue
            for thing in (0, 3, None, "ash", ["a"]):
                with self.assertRaises(refusal(word)) as caught:
                    raise refusal(word)(thing)
                self.assertEqual(vars(caught.exception), {field: thing}, word)
                self.assertIs(getattr(caught.exception, field), thing, word)
                self.assertTrue(str(caught.exception), word)

    def test_those_without_a_field(self):
        for word, field in FIELDS.items():
            if field is None:
                with self.assertRaises(refusal(word)) as caught:
                    raise refusal(word)("why")
                self.assertEqual(vars(caught.exception), {}, word)
                self.assertEqual(str(caught.exception), "why", word)


if __name__ == "__main__":
    unittest.main()
