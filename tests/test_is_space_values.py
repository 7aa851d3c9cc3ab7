"""Values that are no spaces, or hardly any."""

import copy
import time
import unittest

from tests.samples import NONE, ONE, all_small
from undrawn.spaces import is_space

HUGE = 10**3999
NEVER = [True, False, None, HUGE, -HUGE, -1000, "", "A", "a" * 4000, "undrawn", [], {}, {"a": 1}, ((),), [()], (None,)]


def replaced(value, new):
    """The value with each of its parts replaced by the new one, one after the other."""
    yield new
    if isinstance(value, tuple):
        for k, item in enumerate(value):
            for other in replaced(item, new):
                yield value[:k] + (other,) + value[k + 1 :]


def listed(value):
    """The value with one of its tuples turned into a list."""
    if isinstance(value, tuple):
        yield list(value)
        for k, item in enumerate(value):
            for other in listed(item):
                yield value[:k] + (other,) + value[k + 1 :]


def nest(value, depth):
    for _ in range(depth):
        value = (value,)
    return value


class AnyValueTest(unittest.TestCase):
    def test_wrong_values_in_any_place(self):
        for space in all_small():
            for new in NEVER:
                for value in replaced(space, new):
                    self.assertIs(is_space(value), False, value)

    def test_names_and_integers_in_any_place(self):
        for space in all_small():
            for new in (0, 1, 60, "a", (), ONE, ("item", "a"), "subset"):
                for value in replaced(space, new):
                    self.assertIn(is_space(value), (True, False))

    def test_lists_for_tuples(self):
        for space in all_small():
            for value in listed(space):
                self.assertIs(is_space(value), False, value)

    def test_parts_missing_too_many_doubled_or_swapped(self):
        for space in all_small():
            for k in range(len(space)):
                self.assertIs(is_space(space[:k] + space[k + 1 :]), False, space)
                self.assertIs(is_space(space[:k] + space[k : k + 1] + space[k:]), False, space)
                self.assertIs(is_space(space + (space[k],)), False, space)
            self.assertIs(is_space(space[1:] + space[:1]), False, space)
            self.assertIs(is_space(space[::-1]), False, space)

    def test_other_kinds(self):
        values = [None, True, False, 0, 1, -1, HUGE, "", "cycle", "subset 2 1", (), [], {}, ("cycle",), ("cycle", 3, 3)]
        values += [["cycle", 3], {"cycle": 3}, (("cycle", 3),), ("cycles", 3), ("Cycle", 3), ("", 3), (" cycle", 3)]
        values += [(0, 3), (None, 3), (["cycle"], 3), ({}, 3), (("cycle",), 3), (3, "cycle"), ("cycle", (3,)), (True, 3)]
        for value in values:
            self.assertIs(is_space(value), False, value)

    def test_booleans_are_no_integers(self):
        for value in (("cycle", True), ("subset", 1, True), ("subset", True, 1), ("matching", False), ("power", True, ONE)):
            self.assertIs(is_space(value), False, value)
        for value in (("permutation", 2, (False,)), ("permutation", 2, (0, True)), ("word", (("a", True),))):
            self.assertIs(is_space(value), False, value)

    def test_huge_integers(self):
        for n in (HUGE, -HUGE, 10**4000 - 1):
            for value in (("subset", n, n), ("subset", n, 1), ("cycle", n), ("matching", n), ("tree", n), ("power", n, NONE)):
                self.assertIs(is_space(value), False)
            for value in (("walk", n, 0, 0, 0, 0), ("walk", 0, n, n, n, n), ("permutation", n, ()), ("permutation", 3, (n,))):
                self.assertIs(is_space(value), False)
            for value in (("string", ((), (0,)), n), ("string", ((), (n,)), 1), ("word", (("a", n), ("b", n)))):
                self.assertIs(is_space(value), False)

    def test_the_value_is_not_modified(self):
        values = [["cycle", 3], ("word", [["a", 1]]), ("product", [ONE, {"a": [ONE]}]), {"space": ONE}]
        values += [space for space in all_small()]
        for value in values:
            before = copy.deepcopy(value)
            first = is_space(value)
            self.assertIs(is_space(value), first)
            self.assertEqual(value, before)
            self.assertEqual(repr(value), repr(before))

    def test_large_values_are_answered_quickly(self):
        values = [nest(ONE, 39), nest([], 40), ("product", nest(ONE, 38)), (ONE,) * 9000, ("product", (ONE,) * 9000)]
        values += [("word", (("a", HUGE),) * 3000), ("permutation", 60, tuple(range(9000))), (HUGE,) * 9000, ["a" * 4000] * 500]
        values += [("string", (((0, "a", 1),) * 2400, ()), 1), ("string", ((), tuple(range(9000))), 60), ("cycle", [HUGE] * 9000)]
        row = ("tree", 400)
        for _ in range(5):
            row = ("product", (row,) * 6)
        order = ("item", "a")
        for _ in range(5):
            order = ("parallel", (order,) * 6)
        begin = time.perf_counter()
        for value in values + [row, ("product", (row,) * 6), ("arrangement", order), {"a": row}]:
            self.assertIs(is_space(value), False)
        self.assertLess(time.perf_counter() - begin, 2)
