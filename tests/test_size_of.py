"""The number of objects of small spaces, compared with lists of all objects."""

import unittest

from tests.brute import objects_of
from tests.samples import NONE, ONE, SMALL
from undrawn.spaces import is_space, size_of


class SmallSizesTest(unittest.TestCase):
    def test_document(self):
        order = ("series", (("item", "a"), ("parallel", (("item", "b"), ("item", "c")))))
        self.assertEqual(size_of(("arrangement", order)), 2)
        self.assertEqual(size_of(("decorated", (("a", 2), ("b", 1)), (("cycle", 3), ("matching", 1)))), 12)
        self.assertEqual(size_of(("permutation", 1, (0,))), 0)

    def check(self, space):
        self.assertIs(is_space(space), True, space)
        objects = objects_of(space)
        self.assertEqual(len(set(objects)), len(objects), space)
        size = size_of(space)
        self.assertIs(size.__class__, int, space)
        self.assertEqual(size, len(objects), space)
        self.assertEqual(size_of(space=space), size)

    def test_samples_of_each_kind(self):
        for spaces in SMALL.values():
            for space in spaces:
                self.check(space)

    def test_subsets(self):
        for n in range(7):
            for k in range(n + 1):
                self.check(("subset", n, k))

    def test_words(self):
        for a in range(1, 4):
            for b in range(1, 4):
                self.check(("word", (("a", a), ("b", b))))
        self.check(("word", (("a", 2), ("b", 1), ("c", 1), ("d", 2))))

    def test_arrangements(self):
        chain = ("series", tuple(("item", name) for name in ("p", "q", "r")))
        pair = ("parallel", (("item", "s"), ("item", "t")))
        for order in (("parallel", (chain, pair)), ("series", (pair, chain)), ("parallel", (chain, ("item", "x"), pair))):
            self.check(("arrangement", order))

    def test_walks(self):
        for n in range(6):
            for start in range(-1, 3):
                for end in range(-1, 3):
                    self.check(("walk", n, start, end, -1, 2))
                    self.check(("walk", n, start, end, -5, 6))

    def test_matchings_and_cycles(self):
        for m in range(5):
            self.check(("matching", m))
        for n in range(1, 7):
            self.check(("cycle", n))

    def test_permutations(self):
        for n in range(6):
            for moved in (tuple(range(n)), tuple(range(0, n, 2)), tuple(range(1, n)), ()):
                self.check(("permutation", n, moved))

    def test_strings(self):
        moves = ((0, "a", 1), (0, "b", 2), (1, "a", 2), (1, "c", 0), (2, "b", 2), (2, "c", 1), (5, "a", 0))
        for n in range(6):
            for accepting in ((), (0,), (1,), (2,), (0, 1, 2), (5, 7)):
                self.check(("string", (moves, accepting), n))

    def test_nested_spaces(self):
        for leaf in (ONE, NONE, ("tree", 3), ("subset", 4, 2)):
            for kind in ("product", "choice"):
                self.check((kind, (leaf, ("cycle", 3))))
                self.check((kind, (("choice", (leaf, ONE)), ("product", (leaf, ("matching", 2))))))
            self.check(("power", 0, leaf))
            self.check(("power", 2, ("choice", (leaf, NONE))))
            self.check(("decorated", (("a", 2), ("b", 1)), (leaf, ("cycle", 3))))
            self.check(("decorated", (("a", 1), ("b", 1)), (("power", 0, NONE), leaf)))
