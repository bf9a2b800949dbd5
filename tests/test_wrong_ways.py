"""Wrong inputs of kindlestair.switches, kindlestair.stairs and kindlestair.ways."""

import unittest

from kindlestair.stairs import steps
from kindlestair.switches import gone, switched
from kindlestair.ways import row_down, row_for, row_to
from wrong import WrongInputs

WEB, GIVES, STANDING = ("web", "web"), ("gives", "gives"), ("standing", "standing")


class Wrong(WrongInputs, unittest.TestCase):
    FUNCTIONS = (
        (switched, (WEB, GIVES, STANDING, ("switch", "switch")), ()),
        (gone, (WEB, GIVES, STANDING, ("row", "row")), ()),
        (steps, (WEB, ("over", "names")), ("over",)),
        (row_down, (WEB, GIVES, STANDING), ()),
        (row_to, (WEB, GIVES, ("one", "standing"), ("other", "standing")), ()),
        (row_for, (WEB, GIVES, STANDING, ("name", "name")), ()),
    )


if __name__ == "__main__":
    unittest.main()
