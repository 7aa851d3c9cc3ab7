"""The number of objects that match observations."""

import unittest
from math import comb, factorial

from tests.brute_counts import listed, matching, mixtures
from tests.changes import unchanged
from tests.large import LEAVES, NESTED, SIXTHS, at_once
from tests.samples import NONE, ONE, all_small
from undrawn.counting import count_matching
from undrawn.spaces import is_space, size_of


def whole(question, item):
    """An observation of a space without choices on the path."""
    return ((), *question), ((), (item,))


class CountMatchingTest(unittest.TestCase):
    def check(self, space, table):
        """Each tuple of (question, item) pairs to the whole space with the number of matching objects."""
        for pairs, count in table.items():
            self.assertEqual(count_matching(space, tuple(whole(*pair) for pair in pairs)), count, pairs)

    def test_document(self):
        self.assertEqual(count_matching(("subset", 5, 2), ((((), "contains", 0), ((), (True,))),)), 4)

    def test_interface(self):
        self.assertEqual(count_matching(space=ONE, observations=()), 1)
        self.assertEqual(count_matching.__module__, "undrawn.counting")

    def test_samples_are_spaces(self):
        for space in list(LEAVES.values()) + list(NESTED.values()):
            self.assertTrue(is_space(space), space[0])

    def test_one_observation(self):
        for space in all_small():
            objects, queries, answers = listed(space)
            self.assertEqual(count_matching(space, ()), len(objects))
            for query in queries[:: 1 + len(queries) // 40]:
                for answer in sorted(set(answers[query])):
                    wanted = answers[query].count(answer)
                    self.assertEqual(count_matching(space, ((query, answer),)), wanted, (space, query, answer))

    def test_mixtures(self):
        for space in all_small():
            for observations in mixtures(space, 40, "count"):
                wanted = len(matching(space, observations))
                self.assertEqual(count_matching(space, observations), wanted, (space, observations))
                self.assertEqual(count_matching(space, observations[::-1]), wanted, (space, observations))
                self.assertEqual(count_matching(space, observations + observations[:2]), wanted, (space, observations))
                self.assertTrue(unchanged(count_matching, space, observations))

    def test_contradictions(self):
        self.check(("subset", 5, 2), {((("contains", 0), True), (("contains", 0), False)): 0})
        self.check(("subset", 5, 2), {((("select", 0), 3), (("rank", 2), 1)): 0, ((("select", 0), 3), (("rank", 2), 0)): 1})
        self.check(("cycle", 4), {((("successor", 0), 1), (("successor", 1), 0)): 0, ((("successor", 0), 1), (("predecessor", 1), 2)): 0})
        self.check(("tree", 4), {((("parent", 1), 2), (("parent", 2), 1)): 0, ((("parent", 1), 2), (("parent", 3), 1)): 1})
        self.check(("matching", 3), {((("partner", 0), 1), (("partner", 1), 2)): 0, ((("partner", 0), 1), (("partner", 1), 0)): 3})
        self.check(("permutation", 4, ()), {((("image", 0), 1), (("preimage", 1), 2)): 0, ((("image", 0), 1), (("preimage", 1), 0)): 6})

    def test_selections_are_part_of_an_observation(self):
        space = ("choice", (("cycle", 4), ("choice", (NONE, ONE, ("matching", 2)))))
        deep = ((1, 2), "partner", 0)
        self.assertEqual(count_matching(space, ((deep, ((0,), ())),)), 6)
        self.assertEqual(count_matching(space, ((deep, ((1, 1), ())),)), 1)
        self.assertEqual(count_matching(space, ((deep, ((1, 2), (3,))),)), 1)
        self.assertEqual(count_matching(space, ((((1,), "selected"), ((1,), (2,))), (((0,), "successor", 0), ((1,), ())))), 3)
        self.assertEqual(count_matching(space, ((((), "selected"), ((), (0,))), (((0,), "successor", 0), ((1,), ())))), 0)

    def test_all_of_an_answer_counts(self):
        self.check(("word", (("a", 3), ("b", 3))), {((("entry", 3), ((2, 1), "b")),): 3 * 2, ((("select", "b", 1), (3, (2, 1))),): 3 * 2})
        self.check(("walk", 4, 0, 0, -2, 2), {((("first_visit", 1, 2), (1, (2,))),): 1, ((("last_visit", 3, 1), (-1, (1,))),): 1})
        self.check(("walk", 4, 0, 0, -2, 2), {((("first_visit", 1, 2), (1, ())),): 2, ((("last_visit", 2, 1), (0, ())),): 2})

    def test_large_leaves(self):
        n = 400
        self.check(LEAVES["subset"], {((("contains", 7), True), (("rank", 100), 40)): comb(99, 39) * comb(300, 160)})
        self.check(LEAVES["subset"], {((("select", 10), 50), (("select", 11), 60)): comb(50, 10) * comb(339, 188)})
        self.check(LEAVES["two letters"], {((("prefix", 100), (40, 60)), (("letter", 99), "b")): comb(99, 40) * comb(300, 160)})
        self.check(LEAVES["cycle"], {((("successor", 5), 9), (("predecessor", 5), 7), (("successor", 0), 1)): factorial(n - 4)})
        self.check(LEAVES["matching"], {((("partner", 0), 399), (("partner", 7), 8)): factorial(396) // (2**198 * factorial(198))})
        self.check(LEAVES["tree"], {((("parent", 1), 0), (("parent", 2), 1), (("parent", 4), 3)): 3 * n**395})
        self.check(("permutation", 60, ()), {((("image", 3), 3), (("preimage", 0), 9)): factorial(58)})
        self.check(LEAVES["walk"], {((("height", 20), 4), (("up", 29), 59)): comb(20, 12) * comb(39, 17)})
        self.check(("string", (((0, "a", 0), (0, "b", 0)), (0,)), 60), {((("letter", 3), "a"), (("letter_in", 9, ("b", "c")), True)): 2**58})

    def test_counts_add_up_at_the_limits(self):
        with at_once():
            for space in NESTED.values():
                self.assertEqual(count_matching(space, ()), size_of(space))
            size = size_of(NESTED["letters"])
            observations = (((), "letter", 0), ((), ("a",))), (((("b", 66),), "parent", 1), ((), (0,)))
            self.assertEqual(count_matching(NESTED["letters"], observations), size * 67 * 8 // (400 * 16))
            self.assertEqual(count_matching(NESTED["subsets"], tuple((((k,), "contains", 0), ((), (True,))) for k in range(30))), 70**400 // 2**30)

    def test_largest_size(self):
        space = NESTED["below"]
        self.assertEqual(count_matching(space, ()), 10**4000 - 1)
        self.assertEqual(count_matching(space, ((((0,), "selected"), ((), (1,))),)), (10**4000 - 1) // (10**2000 + 1))

    def test_more_observations_than_the_limit(self):
        observations = tuple(whole(("contains", p), p < 200) for p in range(400))
        self.assertEqual(count_matching(LEAVES["subset"], observations), 1)
        self.assertEqual(count_matching(LEAVES["subset"], observations[1:] * 2), 1)
        self.assertEqual(count_matching(LEAVES["subset"], observations + (whole(("rank", 3), 2),)), 0)

    def test_many_letters(self):
        with at_once():
            observations = tuple(whole(("letter", p), "abcdef"[p % 6]) for p in range(0, 400, 14))
            held = [sum(1 for p in range(0, 400, 14) if p % 6 == k) for k in range(6)]
            wanted = factorial(400 - sum(held))
            for (_, count), taken in zip(SIXTHS, held):
                wanted //= factorial(count - taken)
            self.assertEqual(count_matching(LEAVES["word"], observations), wanted)


if __name__ == "__main__":
    unittest.main()
