import unittest

from breathrows.limits import MOST


class Limits(unittest.TestCase):
    def test_most(self):
        self.assertEqual(MOST, 4096)
        self.assertIs(type(MOST), int)


if __name__ == "__main__":
    unittest.main()
