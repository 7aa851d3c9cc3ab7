"""The limits that concern nested spaces: each one reached, and exceeded by one."""

import time
import unittest

from tests.samples import NONE, ONE, TENS, just_below, tens, tens_and_one
from undrawn.spaces import is_space, size_of


def deep(depth, kind="product"):
    space = ONE
    for _ in range(depth - 1):
        space = wrap(kind, space)
    return space


def wrap(kind, space):
    if kind == "power":
        return ("power", 2, space)
    if kind == "decorated":
        return ("decorated", (("a", 1),), (space,))
    return (kind, (space,))


def wide(parts):
    """A product with this many parts, at most 43."""
    spaces, rest = [], parts - 1
    while rest > 0:
        taken = min(rest, 7)
        spaces.append(("choice", (ONE,) * (taken - 1)) if taken > 1 else ONE)
        rest -= taken
    return ("product", tuple(spaces))


FIVES = ("power", 400, ("product", (ONE,) * 5))


class NestedLimitsTest(unittest.TestCase):
    def check(self, valid, invalid):
        for space in valid:
            self.assertIs(is_space(space), True, space)
        for value in invalid:
            self.assertIs(is_space(value), False, value)

    def test_depth(self):
        for kind in ("product", "choice", "power", "decorated"):
            self.check([deep(6, kind)], [deep(7, kind), deep(8, kind), deep(40, kind)])
        self.check([("power", 0, deep(5))], [("power", 0, deep(6))])
        self.check([("choice", (ONE, deep(5)))], [("choice", (ONE, deep(6)))])

    def test_parts(self):
        self.check([wide(39), wide(40)], [wide(41), wide(42), ("power", 0, wide(40)), ("power", 1, wide(40))])
        self.check([("power", 0, wide(39))], [])

    def test_leaves_of_powers(self):
        self.check([("power", 20, ("power", 100, ONE))], [("power", 3, ("power", 23, ("power", 29, ONE)))])
        self.check([FIVES], [("product", (FIVES, ONE)), ("choice", (ONE, FIVES)), ("power", 400, ("choice", (ONE,) * 6))])
        self.check([("product", (FIVES, ("power", 0, ONE)))], [("power", 2, FIVES)])

    def test_every_kind_of_leaf_counts(self):
        leaves = [("subset", 1, 0), ("word", (("a", 1),)), ("arrangement", ("item", "a")), ("walk", 0, 0, 0, 0, 0), ONE]
        leaves += [("matching", 0), ("permutation", 0, ()), ("tree", 1), ("string", ((), (0,)), 0)]
        for leaf in leaves:
            self.assertEqual(size_of(leaf), 1)
            self.check([("power", 40, ("power", 50, leaf))], [("product", (leaf, FIVES))])

    def test_leaves_of_decorated_spaces(self):
        five, six = ("product", (ONE,) * 5), ("product", (ONE,) * 6)
        self.check(
            [("decorated", (("a", 400),), (five,)), ("decorated", (("a", 398), ("b", 1)), (five, six))],
            [("decorated", (("a", 399), ("b", 1)), (five, six)), ("decorated", (("a", 334),), (six,))],
        )
        self.check([("decorated", (("a", 333),), (six,))], [("power", 2, ("decorated", (("a", 201),), (five,)))])

    def test_leaves_in_a_power_of_no_copies(self):
        self.check(
            [("power", 0, FIVES), ("product", (("power", 0, FIVES),) * 2)],
            [("power", 0, ("product", (FIVES, ONE))), ("product", (ONE, ("power", 0, ("power", 2, FIVES))))],
        )

    def test_number_of_objects(self):
        self.assertEqual(size_of(just_below()), 10**4000 - 1)
        self.assertEqual(size_of(tens(3999)), 10**3999)
        self.check([just_below(), tens(3999)], [tens(4000), tens_and_one(4000, 20), tens(4001)])
        self.check([("power", 0, tens(3999))], [("power", 0, tens(4000)), ("power", 1, tens(4000))])

    def test_number_of_objects_of_each_kind(self):
        half = ("product", (tens(3999), ("subset", 5, 1)))
        less = ("product", (tens(3999), ("subset", 4, 1)))
        self.check([("choice", (half, less)), ("choice", (half, NONE))], [("choice", (half, half))])
        self.check([("product", (tens(2000), tens(1999)))], [("product", (tens(2000), tens(2000)))])
        self.check([("power", 133, ("string", TENS, 60))], [("power", 200, ("string", TENS, 40))])
        self.check([("power", 3, tens(1333))], [("power", 4, tens(1000)), ("power", 400, tens(3999))])
        two = (("a", 4), ("b", 1))
        double = ("product", (tens(1999), ("subset", 2, 1)))
        self.check([("decorated", two, (tens(500), tens(1999)))], [("decorated", two, (tens(500), double))])

    def test_a_factor_without_objects(self):
        self.check(
            [("product", (tens(3999), tens(3999), NONE)), ("product", (NONE,) + (tens(3999),) * 5)],
            [("product", (tens(3999), tens(3999), ONE)), ("product", (NONE, tens(4000)))],
        )
        self.check(
            [("decorated", (("a", 300), ("b", 1)), (("string", TENS, 60), NONE)), ("power", 400, NONE)],
            [("decorated", (("a", 300), ("b", 1)), (("string", TENS, 60), ONE)), ("choice", (NONE, tens(4000)))],
        )
        empty = ("product", (tens(3999), NONE))
        self.check([("power", 3, empty), ("product", (empty, tens(3999)))], [("product", (empty, tens(4000)))])

    def test_large_spaces_are_answered_quickly(self):
        huge = ("power", 400, ("product", (("tree", 400),) * 5))
        wide_power = ("power", 400, tens(3999))
        decorated = ("decorated", (("a", 200), ("b", 200)), (tens(3999), ("tree", 400)))
        begin = time.perf_counter()
        self.check([], [huge, ("power", 0, huge), wide_power, decorated, ("product", (huge,) * 6)])
        self.check([just_below()], [])
        self.assertLess(time.perf_counter() - begin, 2)


def nested(space):
    return {"product": space[1], "choice": space[1], "power": space[2:], "decorated": space[-1]}.get(space[0], ())


def depth_of(space):
    return 1 + max([depth_of(inner) for inner in nested(space)], default=0)


def parts_of(space):
    return 1 + sum(parts_of(inner) for inner in nested(space))


class SamplesTest(unittest.TestCase):
    def test_samples_are_as_large_as_they_say(self):
        self.assertEqual(parts_of(just_below()), 40)
        for parts in (39, 40, 41, 42):
            self.assertEqual(parts_of(wide(parts)), parts)
        for depth in (5, 6, 7):
            self.assertEqual(depth_of(deep(depth)), depth)
