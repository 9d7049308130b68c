import unittest

from smallchange import bounds

NUMBERS = {
    "MAX_KINDS": 4, "MAX_AMOUNT": 30, "MAX_OFFERS": 40, "MAX_PURSE": 10 ** 6, "MAX_RATE": 30, "MAX_MOST": 1000,
    "MAX_TABLE": 200, "MAX_PERIOD": 40, "MAX_TOLD": 5000, "MAX_RUNS": 200, "MAX_SMALL": 8, "MAX_TOGETHER": 12,
    "MAX_GOAL": 20, "MAX_USES": 30, "MAX_GAIN": 12, "MAX_CLASSES": 1000, "MAX_LACKS": 240, "RICH": 810000,
    "MAX_EDITS": 60, "BATCH": 20,
}


class BoundsTest(unittest.TestCase):
    def test_numbers(self):
        for name, number in NUMBERS.items():
            self.assertIs(type(getattr(bounds, name)), int, name)
            self.assertEqual(getattr(bounds, name), number, name)


if __name__ == "__main__":
    unittest.main()
