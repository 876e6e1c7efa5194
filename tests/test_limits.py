import unittest

from shortfigures import limits


class LimitsTest(unittest.TestCase):

    def test_each_value(self):
        listed = {"MOST_UNITS": 6, "MOST_DECIMALS": 3, "MOST_LEAST": 1000, "MOST_NUMBER": 1000000000000000000,
                  "MOST_DIGITS": 24, "MOST_SIGHTS": 4, "MOST_ROWS": 12}
        for name, value in listed.items():
            with self.subTest(name=name):
                self.assertEqual(value, getattr(limits, name))
                self.assertIs(int, type(getattr(limits, name)))


if __name__ == "__main__":
    unittest.main()
