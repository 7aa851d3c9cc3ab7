"""The answers that objects give."""

import unittest

from tests.brute import objects_of
from tests.brute_answers import answer_of, queries_of
from tests.changes import unchanged
from tests.large import LEAVES, at_once, name_of
from tests.samples import EVEN, NONE, ONE, all_small
from undrawn.answers import answer_to

ITEMS = {name: ("item", name) for name in "abcdefg"}


class AnswerToTest(unittest.TestCase):
    def check(self, space, obj, table):
        """Each question to the whole space with the item that answers it."""
        for question, item in table.items():
            self.assertEqual(repr(answer_to(space, obj, ((),) + question)), repr(((), (item,))), question)

    def test_document(self):
        word = ("word", (("a", 3), ("b", 2)))
        self.assertEqual(answer_to(word, ("a", "b", "a", "b", "a"), ((), "select", "a", 1)), ((), ((2, (1, 1)),)))
        walk = ("walk", 4, 0, 0, 0, 2)
        self.assertEqual(answer_to(walk, (0, 1, 2, 1, 0), ((), "first_visit", 1, 0)), ((), ((1, (4,)),)))

    def test_interface(self):
        self.assertEqual(answer_to(space=ONE, obj=(0,), query=((), "successor", 0)), ((), (0,)))
        self.assertEqual(answer_to.__module__, "undrawn.answers")

    def test_small_spaces(self):
        for space in all_small():
            objects = objects_of(space)
            for obj in objects[:: 1 + len(objects) // 30]:
                for query in queries_of(space):
                    wanted = repr(answer_of(space, obj, query))
                    self.assertEqual(repr(answer_to(space, obj, query)), wanted, (space, obj, query))

    def test_subset(self):
        table = {("contains", 1): True, ("contains", 2): False, ("rank", 0): 0, ("rank", 1): 0, ("rank", 2): 1, ("rank", 5): 2}
        self.check(("subset", 5, 2), (1, 4), {**table, ("select", 0): 1, ("select", 1): 4})

    def test_word_and_decorated(self):
        counts = (("a", 2), ("b", 1))
        table = {("letter", 0): "b", ("letter", 2): "a", ("prefix", 0): (0, 0), ("prefix", 2): (1, 1), ("prefix", 3): (2, 1)}
        table.update({("entry", 0): ((0, 0), "b"), ("entry", 2): ((1, 1), "a"), ("select", "a", 1): (2, (1, 1))})
        self.check(("word", counts), ("b", "a", "a"), table)
        self.check(("decorated", counts, (("subset", 1, 1), ("cycle", 2))), (("b", (1, 0)), ("a", (0,)), ("a", (0,))), table)

    def test_arrangement(self):
        inner = ("parallel", (ITEMS["d"], ("series", (ITEMS["e"], ITEMS["f"]))))
        order = ("parallel", (ITEMS["a"], ("series", (ITEMS["b"], inner, ITEMS["g"])), ITEMS["c"]))
        names = ("b", "c", "e", "a", "d", "f", "g")
        table = {("entry", 0): ((((0, 0, 0), 1),), "b"), ("entry", 3): ((((0, 2, 1), 0),), "a")}
        table[("entry", 5)] = (((1, 3, 1), 1), ((1, 1), 1)), "f"
        table[("locate", "f")] = ((2, (1, 1)), (5, (1, 3, 1))), 5
        table[("locate", "g")] = ((6, (1, 4, 1)),), 6
        table[("locate", "c")] = ((1, (0, 1, 0)),), 1
        self.check(("arrangement", order), names, table)
        self.check(("arrangement", ITEMS["a"]), ("a",), {("entry", 0): ((), "a"), ("locate", "a"): ((), 0)})
        self.check(("arrangement", ("series", (ITEMS["b"], ITEMS["a"]))), ("b", "a"), {("entry", 1): ((), "a"), ("locate", "a"): ((), 1)})

    def test_walk(self):
        table = {("height", 0): 0, ("height", 5): -1, ("up", 0): 0, ("up", 1): 4, ("down", 0): 1, ("down", 2): 3}
        table.update({("first_visit", 0, 0): (0, (0,)), ("first_visit", 1, 0): (1, (2,)), ("first_visit", 3, 0): (-1, ())})
        table.update({("last_visit", 5, 0): (-1, (2,)), ("last_visit", 3, 1): (-1, (1,)), ("last_visit", 0, 1): (0, ())})
        table.update({("first_visit", 5, -1): (-1, (5,)), ("last_visit", 5, -1): (-1, (5,)), ("last_visit", 4, -1): (-2, (3,))})
        table.update({("first_visit", 2, 10**999): (0, ()), ("last_visit", 2, -(10**999)): (0, ())})
        self.check(("walk", 5, 0, -1, -2, 1), (0, 1, 0, -1, -2, -1), table)

    def test_maps(self):
        self.check(("cycle", 3), (2, 0, 1), {("successor", 0): 2, ("predecessor", 0): 1, ("predecessor", 2): 0})
        self.check(("matching", 2), (2, 3, 0, 1), {("partner", 0): 2, ("partner", 3): 1})
        self.check(("permutation", 3, ()), (1, 2, 0), {("image", 0): 1, ("preimage", 0): 2, ("preimage", 1): 0})
        self.check(("tree", 3), (None, 2, 0), {("parent", 1): 2, ("parent", 2): 0})

    def test_string(self):
        table = {("letter", 0): "b", ("letter", 1): "a", ("state", 0): 0, ("state", 1): 0, ("state", 2): 1, ("state", 3): 0}
        table.update({("letter_in", 0, ()): False, ("letter_in", 0, ("b", "c")): True, ("letter_in", 1, ("b",)): False})
        table.update({("state_in", 0, (0,)): True, ("state_in", 2, (0, 2)): False, ("state_in", 3, ()): False})
        self.check(("string", EVEN, 3), ("b", "a", "a"), {**table, ("state_in", 2, (1, 7)): True})
        self.check(("string", EVEN, 0), (), {("state", 0): 0, ("state_in", 0, (0,)): True})

    def test_choices(self):
        space = ("choice", (("cycle", 2), ("choice", (("cycle", 2), NONE, ("matching", 1)))))
        answers = [(0, (1, 0)), ((1, (0, (1, 0)))), (1, (2, (1, 0)))]
        found = [answer_to(space, obj, ((1, 0), "successor", 0)) for obj in answers]
        self.assertEqual(found, [((0,), ()), ((1, 0), (1,)), ((1, 2), ())])
        found = [answer_to(space, obj, ((1,), "selected")) for obj in answers]
        self.assertEqual(found, [((0,), ()), ((1,), (0,)), ((1,), (2,))])
        self.assertEqual([answer_to(space, obj, ((), "selected")) for obj in answers], [((), (0,)), ((), (1,)), ((), (1,))])

    def test_paths(self):
        counts, spaces = (("a", 2), ("b", 1)), (("choice", (ONE, ("cycle", 2))), ("matching", 1))
        space = ("product", (ONE, ("power", 2, ("decorated", counts, spaces))))
        first = (("a", (0, (0,))), ("b", (1, 0)), ("a", (1, (1, 0))))
        second = (("b", (1, 0)), ("a", (1, (1, 0))), ("a", (0, (0,))))
        obj = ((0,), (first, second))
        found = [answer_to(space, obj, ((1, copy, ("a", j), 1), "successor", 1)) for copy in (0, 1) for j in (0, 1)]
        self.assertEqual(found, [((0,), ()), ((1,), (0,)), ((1,), (0,)), ((0,), ())])
        self.assertEqual(answer_to(space, obj, ((1, 1, ("b", 0)), "partner", 0)), ((), (1,)))
        self.assertEqual(answer_to(space, obj, ((1, 1), "select", "b", 0)), ((), ((0, (0, 0)),)))

    def test_limits(self):
        names = tuple(name_of(number) for number in range(400))
        counts = [count for letter, count in LEAVES["word"][1]]
        word = tuple(letter for letter, count in LEAVES["word"][1] for _ in range(count))
        with at_once():
            for place in range(400):
                before = tuple(min(count, max(0, place - sum(counts[:k]))) for k, count in enumerate(counts))
                self.check(LEAVES["word"], word, {("entry", place): (before, word[place])})
                steps, name = answer_to(LEAVES["parallel"], names, ((), "entry", place))[1][0]
                self.assertEqual((sum(steps[0][0]), name), (place, names[place]))
                steps, found = answer_to(LEAVES["parallel"], names, ((), "locate", names[place]))[1][0]
                self.assertEqual((steps[-1][0], found), (place, place))
            self.assertTrue(unchanged(answer_to, LEAVES["parallel"], names, ((), "entry", 77)))


if __name__ == "__main__":
    unittest.main()
