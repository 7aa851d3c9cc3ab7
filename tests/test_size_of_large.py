"""The number of objects of large spaces, compared with closed formulas."""

import time
import unittest
from math import comb, factorial, prod

from tests.samples import EVEN, NONE, ONE, TENS, just_below, tens
from tests.test_is_space import grouped, items
from undrawn.spaces import is_space, size_of


def words(*counts):
    return factorial(sum(counts)) // prod(factorial(count) for count in counts)


def counts_of(*counts):
    return tuple(zip("abcdef", counts))


def derangements(n):
    return 1 if n == 0 else n * derangements(n - 1) + (-1) ** n


def mirrored(n, start, end, low, high):
    """Walks between two walls, by reflection."""
    total, width = 0, high - low + 2
    for k in range(-n, n + 1):
        for sign, goal in ((1, end + 2 * k * width), (-1, 2 * (low - 1) - end + 2 * k * width)):
            ups = n + goal - start
            if ups % 2 == 0 and 0 <= ups <= 2 * n:
                total += sign * comb(n, ups // 2)
    return total


class LargeSizesTest(unittest.TestCase):
    def check(self, space, size):
        self.assertIs(is_space(space), True, space)
        self.assertEqual(size_of(space), size, space)

    def test_subsets(self):
        for n, k in ((400, 200), (400, 0), (400, 400), (399, 7)):
            self.check(("subset", n, k), factorial(n) // factorial(k) // factorial(n - k))

    def test_words(self):
        for counts in ((400,), (200, 200), (1, 399), (67, 67, 67, 67, 66, 66), (1, 2, 3, 4, 5, 385)):
            self.check(("word", counts_of(*counts)), words(*counts))

    def test_arrangements(self):
        self.check(("arrangement", grouped(items(400))), factorial(400))
        chains = [("series", tuple(items(402)[k : k + 6])) for k in range(0, 396, 6)]
        self.check(("arrangement", grouped(chains)), factorial(396) // 720**66)
        self.check(("arrangement", ("series", (grouped(items(200)), grouped(items(300)[200:])))), factorial(200) * factorial(100))

    def test_walks(self):
        self.check(("walk", 60, 0, 0, -60, 60), comb(60, 30))
        self.check(("walk", 60, 0, 0, 0, 60), comb(60, 30) // 31)
        self.check(("walk", 60, -60, 0, -60, 60), mirrored(60, -60, 0, -60, 60))
        self.check(("walk", 60, 0, 0, 0, 1), 1)
        self.check(("walk", 60, 0, 0, 0, 2), 2**29)
        self.check(("walk", 60, -60, 60, -60, 60), 0)
        for walk in ((60, 3, 5, 0, 9), (59, -7, 4, -8, 4), (60, 1, 0, -3, 3), (58, 60, 2, -20, 60)):
            self.check(("walk", *walk), mirrored(*walk))

    def test_cycles_matchings_trees(self):
        self.check(("cycle", 400), factorial(399))
        self.check(("matching", 200), factorial(400) // (2**200 * factorial(200)))
        self.check(("tree", 400), 400**398)
        self.check(("tree", 2), 1)
        self.check(("tree", 101), 101**99)

    def test_permutations(self):
        self.check(("permutation", 60, ()), factorial(60))
        self.check(("permutation", 60, tuple(range(60))), derangements(60))
        self.check(("permutation", 60, tuple(range(1, 60))), derangements(60) + derangements(59))
        self.check(("permutation", 60, (7,)), factorial(60) - factorial(59))
        self.check(("permutation", 60, (7, 59)), factorial(60) - 2 * factorial(59) + factorial(58))

    def test_strings(self):
        self.check(("string", EVEN, 60), 2**59)
        self.check(("string", TENS, 60), 10**30)
        self.check(("string", TENS, 59), 0)
        six = tuple((state, letter, 7 - state) for state in range(8) for letter in "abcdef")
        self.check(("string", (six, tuple(range(8))), 60), 6**60)
        self.check(("string", (six, (7,)), 60), 0)
        before, after = 1, 1
        for _ in range(60):
            before, after = after, before + after
        apart = (((0, "a", 1), (0, "b", 0), (1, "b", 0)), (0, 1))
        self.check(("string", apart, 60), after)

    def test_nested_spaces(self):
        tree, cycle = ("tree", 400), ("cycle", 400)
        self.check(("product", (tree, cycle, tree)), 400**796 * factorial(399))
        self.check(("product", (tree, NONE, cycle)), 0)
        self.check(("choice", (tree, cycle, NONE, tree)), 2 * 400**398 + factorial(399))
        self.check(("power", 400, ("choice", (ONE, ONE, ("subset", 5, 1)))), 7**400)
        self.check(("power", 4, ("power", 50, ("matching", 8))), 2027025**200)
        self.check(("power", 400, NONE), 0)
        self.check(("power", 0, tens(3999)), 1)
        self.check(("product", (tens(3999), tens(3999), NONE)), 0)

    def test_decorated_spaces(self):
        two = counts_of(200, 200)
        self.check(("decorated", two, (("cycle", 5), ("subset", 5, 2))), words(200, 200) * 24**200 * 10**200)
        self.check(("decorated", two, (("cycle", 5), NONE)), 0)
        six = counts_of(67, 67, 67, 67, 66, 66)
        spaces = (("tree", 4), ONE, ("power", 2, ("cycle", 4)), ("choice", (ONE, ONE)), ("matching", 3), ("subset", 7, 3))
        size = words(67, 67, 67, 67, 66, 66) * 16**67 * 36**67 * 2**67 * 15**66 * 35**66
        self.check(("decorated", six, spaces), size)

    def test_at_the_limit_of_objects(self):
        self.check(just_below(), 10**4000 - 1)
        self.check(tens(3999), 10**3999)

    def test_large_spaces_are_answered_quickly(self):
        spaces = [just_below(), tens(3999), ("power", 400, ("product", (ONE,) * 5)), ("arrangement", grouped(items(400)))]
        spaces += [("tree", 400), ("string", TENS, 60), ("walk", 60, 0, 0, -60, 60), ("product", (NONE,) + (tens(3999),) * 5)]
        begin = time.perf_counter()
        for space in spaces:
            size_of(space)
        self.assertLess(time.perf_counter() - begin, 2)
