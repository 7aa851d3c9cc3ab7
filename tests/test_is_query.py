"""Which values are queries of a space."""

import unittest

from tests.brute_answers import queries_of
from tests.changes import ODDITIES, changed, unchanged
from tests.large import LEAVES, NESTED, at_once
from tests.samples import EVEN, NONE, ONE, all_small
from undrawn.queries import is_query

FREE = ("first_visit", "last_visit", "letter_in", "state_in")


class IsQueryTest(unittest.TestCase):
    def check(self, space, valid, invalid):
        for value in valid:
            self.assertIs(is_query(space, value), True, (space, value))
        for value in invalid:
            self.assertIs(is_query(space, value), False, (space, value))

    def check_tops(self, space, word, top, low=0):
        """One integer from low to the top follows the word."""
        self.check(space, [((), word, k) for k in range(low, top + 1)], [((), word, k) for k in (low - 1, top + 1, -1)])
        self.check(space, [], [((), word), ((), word, None), ((), word, "0"), ((), word, (low,)), ((), word, True), (word, low)])
        self.check(space, [], [((), word, low, low), ((), word, False), (word,), ([], word, low), [(), word, low]])
        self.check(space, [], [((0,), word, low), ((), word.upper(), low), ((), [word], low), ((), word, [low])])

    def test_document(self):
        self.check(("subset", 5, 2), [((), "select", 1)], [((), "select", 2)])

    def test_interface(self):
        self.assertIs(is_query(space=("cycle", 1), value=((), "successor", 0)), True)
        self.assertEqual(is_query.__module__, "undrawn.queries")

    def test_small_spaces(self):
        for space in all_small():
            queries = queries_of(space)
            known = {repr(query) for query in queries}
            self.check(space, queries, [])
            for query in queries[:: 1 + len(queries) // 40]:
                for value in changed(query):
                    if not (isinstance(value, tuple) and len(value) > 1 and value[1] in FREE):
                        self.assertIs(is_query(space, value), repr(value) in known, (space, value))

    def test_queries_of_other_spaces(self):
        everything = [query for space in all_small() for query in queries_of(space)[::7] if query[1] not in FREE]
        for space in all_small():
            known = {repr(query) for query in queries_of(space)}
            for value in everything + ODDITIES:
                self.assertIs(is_query(space, value), repr(value) in known, (space, value))
        for value in ODDITIES:
            self.assertTrue(unchanged(is_query, ("cycle", 3), value))

    def test_ranges(self):
        for n, k in ((400, 200), (400, 0), (1, 1)):
            for word, top in (("contains", n - 1), ("rank", n), ("select", k - 1)):
                self.check_tops(("subset", n, k), word, top)
        for space in (LEAVES["word"], NESTED["letters"]):
            for word, top in (("letter", 399), ("prefix", 400), ("entry", 399)):
                self.check_tops(space, word, top)
        self.check_tops(LEAVES["parallel"], "entry", 399)
        self.check_tops(("walk", 60, 0, 2, -3, 3), "height", 60)
        self.check_tops(("cycle", 400), "successor", 399)
        self.check_tops(("cycle", 1), "predecessor", 0)
        self.check_tops(("matching", 200), "partner", 399)
        self.check_tops(("permutation", 60, ()), "image", 59)
        self.check_tops(("permutation", 60, (3,)), "preimage", 59)
        self.check_tops(("tree", 400), "parent", 399, 1)
        self.check_tops(("string", EVEN, 60), "letter", 59)
        self.check_tops(("string", EVEN, 60), "state", 60)

    def test_select_a_letter(self):
        for space in (("word", (("a", 3), ("b", 2))), ("decorated", (("a", 3), ("b", 2)), (ONE, NONE))):
            valid = [((), "select", letter, j) for letter, many in (("a", 3), ("b", 2)) for j in range(many)]
            invalid = [("a", 3), ("b", 2), ("c", 0), ("a", -1), ("a", True), (0, 0), ("a",), (0,), ("a", 0, 0), ("a", "0"), (["a"], 0)]
            self.check(space, valid, [((), "select") + arguments for arguments in invalid])

    def test_locate(self):
        invalid = [("a",), ("",), (0,), (None,), (["naaa"],), (("naaa",),), (), ("naaa", "naaa"), ("naaa", 0)]
        self.check(LEAVES["parallel"], [((), "locate", "naaa")], [((), "locate") + arguments for arguments in invalid])

    def test_steps_of_a_walk(self):
        for end, ups, downs in ((0, 30, 30), (6, 33, 27), (-60, 0, 60), (60, 60, 0)):
            self.check_tops(("walk", 60, 0, end, -60, 60), "up", ups - 1)
            self.check_tops(("walk", 60, 0, end, -60, 60), "down", downs - 1)
        self.check(("walk", 5, 0, 0, 0, 3), [], [((), word, j) for word in ("up", "down") for j in range(-1, 6)])
        self.check(("walk", 2, -3, 3, -3, 3), [((), "up", 3)], [((), "up", 4), ((), "down", 0), ((), "down", -1), ((), "down", -2)])

    def test_visits(self):
        space = ("walk", 5, 0, 1, 0, 3)
        for word in ("first_visit", "last_visit"):
            valid = [(t, h) for t in range(6) for h in (-(10**3999), -1, 0, 3, 4, 10**3999)]
            invalid = [(6, 0), (-1, 0), (0,), (0, True), (True, 0), (0, None), (0, "0"), (0, 0, 0), (0, (0,)), ()]
            self.check(space, [((), word) + arguments for arguments in valid], [((), word) + arguments for arguments in invalid])

    def test_tuples_of_letters_and_states(self):
        space = ("string", EVEN, 3)
        letters = [(), ("a",), ("a", "b"), ("b", "zzzzzz"), tuple(sorted("abcdefghijklmnop"))]
        wrong = [("b", "a"), ("a", "a"), ["a"], "a", "ab", ("A",), ("",), ("abcdefg",), (1,), (None,), (("a",),), ("a", 1), None]
        self.check(space, [((), "letter_in", p, some) for p in range(3) for some in letters], [])
        self.check(space, [], [((), "letter_in", 0, some) for some in wrong] + [((), "letter_in", p, ()) for p in (-1, 3, True)])
        states = [(), (0,), (7,), (0, 1), (3, 4, 5), tuple(range(8))]
        wrong = [(1, 0), (0, 0), [0], 0, (8,), (-1,), (False,), (0, True), ("a",), (None,), ((0,),), (7, 8), None]
        self.check(space, [((), "state_in", p, some) for p in range(4) for some in states], [])
        self.check(space, [], [((), "state_in", 0, some) for some in wrong] + [((), "state_in", p, ()) for p in (-1, 4, True)])
        self.check(space, [], [((), "letter_in", 0), ((), "state_in", 0), ((), "letter_in", ()), ((), "letter_in", 0, (), ())])

    def test_paths(self):
        space = ("product", (ONE, ("choice", (NONE, ("power", 3, ("decorated", (("a", 2),), (("cycle", 2),)))))))
        step = ("a", 1)
        valid = [((0,), "successor", 0), ((1,), "selected"), ((1, 0), "image", 0), ((1, 1, 2), "select", "a", 1)]
        invalid = [((), "selected"), ((1, 1), "selected"), ((1, 1, 3), "letter", 0), ((1, 1, -1), "letter", 0), ((2,), "selected")]
        invalid += [((1, 1, 2, other), "successor", 0) for other in (("a", 2), ("a", -1), ("b", 0), ("a",), ["a", 1], "a", 0)]
        invalid += [((1, 1, 2, other), "successor", 0) for other in (("a", True), ("a", 1, 1), (0, "a"), ("a", "1"), (["a"], 1))]
        invalid += [((1, 1, 2, step, 0), "successor", 0), ((0, 0), "successor", 0), ((True,), "selected"), ((1, True, 2), "letter", 0)]
        invalid += [((None,), "selected"), (("1",), "selected"), (((1,),), "selected"), (1, "selected"), ("selected",), (None, "selected")]
        invalid += [((1,), "selected", 0), ((1,), "selected", ()), ((1,), ("selected",)), ((1,),), (), ((-1,), "selected"), [(1,), "selected"]]
        self.check(space, valid + [((1, 1, 2, step), "successor", 1)], invalid)

    def test_products_and_powers_have_no_queries(self):
        words = ("contains", "letter", "entry", "selected", "select", "successor")
        for space in (("product", (ONE, ONE)), ("power", 3, ONE), ("power", 0, ONE)):
            self.check(space, [], [((), word) + rest for word in words for rest in ((), (0,), ("a", 0))])
        self.check(("power", 0, ONE), [], [((0,), "successor", 0), ((-1,), "successor", 0)])

    def test_deepest(self):
        path = (1, 1, 2, ("a", 1))
        valid = [(path, "selected"), (path + (0,), "contains", 7), (path + (1,), "image", 0), (path + (2,), "successor", 4)]
        self.check(NESTED["deepest"], valid, [(path + (3,), "image", 0), (path + (0, 0), "contains", 7), (path + (0,), "contains", 8)])

    def test_any_values_at_the_limits(self):
        with at_once():
            for space in list(LEAVES.values()) + list(NESTED.values()):
                self.check(space, [], ODDITIES + [((), word) + tuple(ODDITIES) for word in ("contains", "entry", "selected")])
                self.check(space, [], [((0,) * 5000, "contains", 0), ((), "contains", 10**3999), ((10**3999,), "selected")])


if __name__ == "__main__":
    unittest.main()
