import unittest

from undrawn import limits


class LimitsTest(unittest.TestCase):
    def test_constants(self):
        self.assertEqual((limits.DIGITS, limits.LIMIT, limits.LEAVES), (4000, 500, 2000))
        for value in (limits.DIGITS, limits.LIMIT, limits.LEAVES):
            self.assertIs(value.__class__, int)
