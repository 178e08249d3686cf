"""The constants of the limits."""

import unittest

from raggedtotals import limits
from tests.helpers import Case

VALUES = {
    "MAX_LEVELS": 8, "MAX_LINKS": 14, "MAX_MARKS": 4, "MAX_RULES": 20, "MAX_PARTS": 60, "MAX_DEPTH": 6,
    "MAX_SHAPES": 60, "MAX_DIMENSIONS": 3, "MAX_STORED": 10, "MAX_WANTED": 4, "MAX_BANNED": 12, "EVERYTHING": "*",
}


class LimitsTest(Case):
    def test_each_constant_has_its_value(self):
        for name in VALUES:
            with self.subTest(name):
                self.same(getattr(limits, name), VALUES[name])

    def test_there_are_no_others(self):
        self.assertEqual({name for name in vars(limits) if not name.startswith("_")}, set(VALUES))


if __name__ == "__main__":
    unittest.main()
