"""Whether all matching objects give the same answer."""

import unittest

from tests.brute_answers import queries_of
from tests.brute_counts import counted, mixtures
from tests.changes import unchanged
from tests.large import LEAVES, NESTED, at_once
from tests.samples import NONE, ONE, all_small
from undrawn.counting import is_determined


class IsDeterminedTest(unittest.TestCase):
    def test_document(self):
        self.assertIs(is_determined(("subset", 3, 3), (), ((), "contains", 1)), True)

    def test_interface(self):
        self.assertIs(is_determined(space=ONE, observations=(), query=((), "successor", 0)), True)
        self.assertEqual(is_determined.__module__, "undrawn.counting")

    def test_all_queries(self):
        for space in all_small():
            for query in queries_of(space):
                self.assertIs(is_determined(space, (), query), len(counted(space, (), query)) <= 1, (space, query))

    def test_mixtures(self):
        for space in all_small():
            queries = queries_of(space)
            for k, observations in enumerate(mixtures(space, 40, "sure") if queries else []):
                query = queries[k * 11 % len(queries)]
                wanted = len(counted(space, observations, query)) <= 1
                self.assertIs(is_determined(space, observations, query), wanted, (space, observations, query))
                self.assertTrue(unchanged(is_determined, space, observations, query))

    def test_an_observed_query_is_determined(self):
        for space in all_small():
            for observations in mixtures(space, 5, "observed"):
                for query, _ in observations:
                    self.assertIs(is_determined(space, observations, query), True)

    def test_nothing_matches(self):
        for space in (NONE, ("product", (NONE, ("cycle", 4))), ("walk", 3, 0, 0, 0, 3)):
            for query in queries_of(space):
                self.assertIs(is_determined(space, (), query), True)
        contradiction = ((((), "contains", 0), ((), (True,))), (((), "contains", 0), ((), (False,))))
        for query in queries_of(("subset", 5, 2)):
            self.assertIs(is_determined(("subset", 5, 2), contradiction, query), True)

    def test_equal_items_of_different_selections(self):
        # The selection is a part of the answer.
        space = ("choice", (ONE, ("choice", (ONE, ONE))))
        self.assertIs(is_determined(space, (), ((0,), "successor", 0)), False)
        self.assertIs(is_determined(space, ((((), "selected"), ((), (0,))),), ((1, 1), "successor", 0)), True)
        self.assertIs(is_determined(space, ((((), "selected"), ((), (1,))),), ((1, 1), "successor", 0)), False)
        self.assertIs(is_determined(("choice", (NONE, ONE)), (), ((1,), "successor", 0)), True)

    def test_limits(self):
        name = LEAVES["parallel"][1][1][2][1][3][1][4][1][1][1]
        with at_once():
            for space, query, wanted in [
                (LEAVES["word"], ((), "prefix", 200), False),
                (LEAVES["word"], ((), "prefix", 400), True),
                (LEAVES["word"], ((), "entry", 399), False),
                (LEAVES["word"], ((), "select", "f", 65), False),
                (LEAVES["parallel"], ((), "entry", 200), False),
                (LEAVES["parallel"], ((), "locate", name), False),
                (LEAVES["series"], ((), "entry", 199), True),
                (LEAVES["series"], ((), "entry", 200), False),
                (LEAVES["walk"], ((), "first_visit", 30, 0), False),
                (LEAVES["walk"], ((), "last_visit", 60, 0), True),
                (LEAVES["walk"], ((), "height", 1), False),
                (LEAVES["string"], ((), "state", 0), True),
                (LEAVES["tree"], ((), "parent", 399), False),
                (("word", (("a", 400),)), ((), "select", "a", 399), True),
                (NESTED["below"], ((0,), "selected"), False),
                (NESTED["subsets"], ((399,), "rank", 8), True),
            ]:
                self.assertIs(is_determined(space, (), query), wanted, (space[0], query))


if __name__ == "__main__":
    unittest.main()
