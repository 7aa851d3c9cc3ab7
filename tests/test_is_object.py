"""Which values are objects of a space."""

import unittest

from tests.brute import objects_of
from tests.changes import ODDITIES, changed, unchanged
from tests.large import LEAVES, NESTED, at_once, name_of
from tests.samples import EVEN, NONE, ONE, ORDER, all_small
from undrawn.objects import is_object


class IsObjectTest(unittest.TestCase):
    def check(self, space, valid, invalid):
        for value in valid:
            self.assertIs(is_object(space, value), True, (space, value))
        for value in invalid:
            self.assertIs(is_object(space, value), False, (space, value))

    def test_document(self):
        self.check(("subset", 5, 2), [(1, 3)], [(3, 1)])

    def test_interface(self):
        self.assertIs(is_object(space=("cycle", 1), value=(0,)), True)
        self.assertEqual(is_object.__module__, "undrawn.objects")

    def test_small_spaces(self):
        for space in all_small():
            objects = objects_of(space)
            known = {repr(obj) for obj in objects}
            self.check(space, objects, [])
            for obj in objects[:: 1 + len(objects) // 12]:
                for value in changed(obj):
                    self.assertIs(is_object(space, value), repr(value) in known, (space, value))

    def test_objects_of_other_spaces(self):
        everything = [obj for space in all_small() for obj in objects_of(space)[:3]]
        for space in all_small():
            known = {repr(obj) for obj in objects_of(space)}
            for value in everything + ODDITIES:
                self.assertIs(is_object(space, value), repr(value) in known, (space, value))
                self.assertTrue(unchanged(is_object, space, value))

    def test_spaces_with_one_object(self):
        for space, obj in [(ONE, (0,)), (("subset", 0, 0), ()), (("matching", 0), ()), (("permutation", 0, ()), ())]:
            self.check(space, [obj], [obj + (0,), list(obj), None, (None,), (True,), (False,)])
        self.check(("tree", 1), [(None,)], [(), (0,), (None, None), None, (False,), ("None",)])
        self.check(("power", 0, NONE), [()], [((),), (0,), None, []])
        self.check(("walk", 0, -60, -60, -60, 60), [(-60,)], [(), (60,), (-60, -60)])

    def test_spaces_without_objects(self):
        for space in (NONE, ("choice", (NONE, NONE)), ("power", 2, NONE), ("product", (ONE, NONE)), ("string", ((), ()), 0)):
            self.check(space, [], ODDITIES + [((0,), (0,)), (0, (0,)), ((0,),)])

    def test_integers_and_booleans(self):
        self.check(("cycle", 2), [(1, 0)], [(True, False), (1, False), (True, 0)])
        self.check(("walk", 1, 0, 1, 0, 1), [(0, 1)], [(False, True), (0, True)])
        self.check(("choice", (ONE, ONE)), [(1, (0,))], [(True, (0,)), (1, (False,)), (2, (0,)), (-1, (0,))])

    def test_no_circles_in_a_tree(self):
        self.check(("tree", 4), [(None, 2, 0, 2), (None, 3, 1, 0)], [(None, 2, 1, 0), (None, 1, 0, 0), (None, 2, 3, 1)])
        self.check(("tree", 3), [(None, 0, 1)], [(0, 0, 1), (None, None, 0), (None, 0, 3), (None, -1, 0)])

    def test_one_circle_in_a_cycle(self):
        self.check(("cycle", 4), [(1, 2, 3, 0), (2, 3, 1, 0)], [(1, 0, 3, 2), (0, 2, 3, 1), (1, 2, 3, 3), (1, 2, 1, 0), (2, 0, 0, 0)])

    def test_series(self):
        self.check(("arrangement", ORDER), [("a", "d", "b", "c")], [("d", "a", "b", "c"), ("a", "b", "c", "c"), ("a", "b", "c")])

    def test_string_moves(self):
        self.check(("string", EVEN, 2), [("a", "a"), ("b", "b")], [("a", "b"), ("a", "c"), ("a", ["a"]), "aa", ("aa", "")])

    def test_limits(self):
        line = (None,) + tuple(range(399))
        with at_once():
            self.check(LEAVES["tree"], [line], [line[:-1] + (399,), line[:-1], (None,) + tuple(range(2, 400)) + (1,)])
            self.check(LEAVES["cycle"], [tuple(range(1, 400)) + (0,)], [tuple(range(400)), tuple(range(1, 400)) + (1,)])
            self.check(LEAVES["subset"], [tuple(range(0, 400, 2))], [tuple(range(0, 402, 2)), tuple(range(2, 402, 2))])
            word = tuple("a" * 67 + "b" * 67 + "c" * 67 + "d" * 67 + "e" * 66 + "f" * 66)
            self.check(LEAVES["word"], [word, word[::-1]], [word[:-1] + ("a",), word + ("f",), word[:-1] + ("g",)])
            names = tuple(name_of(number) for number in range(400))
            self.check(LEAVES["series"], [names, names[:200] + names[:199:-1]], [names[::-1], names[1:] + names[:1]])
            pairs = tuple(range(399, -1, -1))
            self.check(LEAVES["matching"], [pairs], [tuple(range(400)), pairs[:-1] + (1,)])
            self.check(LEAVES["walk"], [(0, 1) * 30 + (0,)], [(0, 1) * 30 + (1,), (0, 1) * 30, (0, 1) * 29 + (0, 2, 0)])
            self.check(LEAVES["permutation"], [tuple(range(1, 60)) + (0,)], [tuple(range(1, 59)) + (0, 59)])
            self.check(("power", 400, ("subset", 1, 1)), [((0,),) * 400], [((0,),) * 399, ((0,),) * 399 + ((1,),)])
            for space in list(LEAVES.values()) + list(NESTED.values()):
                self.check(space, [], ODDITIES)


if __name__ == "__main__":
    unittest.main()
