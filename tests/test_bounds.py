"""The numbers of heardagain.bounds."""

import unittest

from heardagain import bounds

TOLD = {
    "MAX_NOTES": 60, "MAX_ONSET": 9999, "MAX_PITCH": 127, "MAX_VOICE": 7, "MAX_LENGTH": 999, "MAX_FAR": 9999,
    "MAX_FIGURE": 12, "MAX_PLACES": 2000, "MAX_CROSS": 400, "MAX_SEVERAL": 4, "MAX_CLOSED": 300, "MAX_SMALL": 8,
    "MAX_LINE": 24, "MAX_PRICE": 9, "MAX_VARIABLES": 5, "MAX_STEP": 48, "MAX_SINGLES": 300, "MAX_STANDING": 6,
    "MAX_SHELF": 8, "MAX_NAME": 8, "MAX_EDITS": 40, "BATCH": 12,
}


class BoundsTest(unittest.TestCase):
    def test_numbers(self):
        found = {name: value for name, value in vars(bounds).items() if name.isupper()}
        self.assertEqual(found, TOLD)
        for name, value in found.items():
            self.assertIs(type(value), int, name)


if __name__ == "__main__":
    unittest.main()
