"""The answers of the matching objects with their counts."""

import unittest
from math import comb, factorial

from tests.brute_answers import queries_of
from tests.brute_counts import counted, listed, mixtures
from tests.changes import unchanged
from tests.large import LEAVES, NESTED, at_once
from tests.samples import NONE, ONE, all_small
from undrawn.counting import answer_counts, count_matching
from undrawn.errors import TooManyAnswers
from undrawn.spaces import size_of


def some_queries(space):
    """For each word the first, the last and a middle query."""
    table = {}
    for query in queries_of(space):
        table.setdefault(query[1], []).append(query)
    return [queries[k] for queries in table.values() for k in sorted({0, len(queries) // 2, len(queries) - 1})]


class AnswerCountsTest(unittest.TestCase):
    def test_document(self):
        wanted = ((((), (0,)), 4), (((), (1,)), 3), (((), (2,)), 2), (((), (3,)), 1))
        self.assertEqual(answer_counts(("subset", 5, 2), (), ((), "select", 0)), wanted)

    def test_interface(self):
        wanted = ((((), (0,)), 1),)
        self.assertEqual(answer_counts(space=ONE, observations=(), query=((), "successor", 0), limit=1), wanted)
        self.assertRaises(TypeError, lambda: answer_counts(ONE, (), ((), "successor", 0), 1))
        self.assertEqual(answer_counts.__module__, "undrawn.counting")

    def test_all_queries(self):
        for space in all_small():
            for query in queries_of(space):
                self.assertEqual(repr(answer_counts(space, (), query)), repr(counted(space, (), query)), (space, query))

    def test_mixtures(self):
        for space in all_small():
            queries = queries_of(space)
            for k, observations in enumerate(mixtures(space, 40, "answers") if queries else []):
                query = queries[k * 7 % len(queries)]
                wanted = counted(space, observations, query)
                self.assertEqual(repr(answer_counts(space, observations, query)), repr(wanted), (space, observations, query))
                self.assertEqual(answer_counts(space, observations[::-1], query, limit=max(1, len(wanted))), wanted)
                if len(wanted) > 1:
                    with self.assertRaises(TooManyAnswers):
                        answer_counts(space, observations, query, limit=len(wanted) - 1)
                self.assertTrue(unchanged(answer_counts, space, observations, query))

    def test_counts_are_those_of_count_matching(self):
        for space in all_small():
            for observations in mixtures(space, 4, "both")[1:]:
                query = observations[0][0]
                for answer, count in answer_counts(space, observations[1:], query):
                    self.assertEqual(count_matching(space, observations[1:] + ((query, answer),)), count)

    def test_nothing_matches(self):
        for space in (NONE, ("product", (NONE, ("cycle", 3))), ("walk", 3, 0, 0, 0, 3), ("string", ((), ()), 2)):
            for query in queries_of(space):
                self.assertEqual(answer_counts(space, (), query, limit=1), ())
        contradiction = ((((), "contains", 0), ((), (True,))), (((), "contains", 0), ((), (False,))))
        for query in queries_of(("subset", 5, 2)):
            self.assertEqual(answer_counts(("subset", 5, 2), contradiction, query, limit=1), ())

    def test_limit(self):
        for space in all_small():
            for query in queries_of(space):
                number = len(set(listed(space)[2][query]))
                if number > 0:
                    self.assertEqual(len(answer_counts(space, (), query, limit=number)), number)
                if number > 1:
                    with self.assertRaises(TooManyAnswers) as caught:
                        answer_counts(space, (), query, limit=number - 1)
                    self.assertEqual(caught.exception.limit, number - 1)

    def test_limit_is_500_if_none_is_given(self):
        # In front of the place there are 0 to 99 a and 0 to 4 b, or 0 to 166 a and 0 to 2 b.
        found = answer_counts(("word", (("a", 99), ("b", 4), ("c", 297))), (), ((), "prefix", 150))
        self.assertEqual(len(found), 500)
        space = ("word", (("a", 166), ("b", 2), ("c", 232)))
        with self.assertRaises(TooManyAnswers) as caught:
            answer_counts(space, (), ((), "prefix", 200))
        self.assertEqual(caught.exception.limit, 500)
        self.assertEqual(len(answer_counts(space, (), ((), "prefix", 200), limit=501)), 501)

    def test_too_many_answers_at_once(self):
        name = LEAVES["parallel"][1][1][2][1][3][1][4][1][1][1]
        table = {"word": [("prefix", 200), ("entry", 200), ("select", "c", 33)], "parallel": [("entry", 200), ("locate", name)]}
        for kind, questions in table.items():
            for question in questions:
                for limit in (1, 500, 10**5, 10**7):
                    with at_once(), self.assertRaises(TooManyAnswers) as caught:
                        answer_counts(LEAVES[kind], (), ((), *question), limit=limit)
                    self.assertEqual(caught.exception.limit, limit)

    def test_too_many_answers_behind_observations(self):
        entry = (((), "entry", 100), ((), (((17, 17, 17, 17, 16, 16), "d"),)))
        letters = tuple((((), "letter", p), ((), ("f",))) for p in range(110, 130))
        with at_once():
            for question in (("prefix", 200), ("entry", 150), ("select", "c", 33)):
                for limit in (500, 10**6):
                    with self.assertRaises(TooManyAnswers):
                        answer_counts(LEAVES["word"], (entry,) + letters, ((), *question), limit=limit)
            self.assertEqual(len(answer_counts(LEAVES["word"], (entry,) + letters, ((), "prefix", 101))), 1)

    def test_large_leaves(self):
        for space in LEAVES.values():
            for query in some_queries(space):
                with at_once():
                    try:
                        found = answer_counts(space, (), query)
                    except TooManyAnswers:
                        continue
                self.assertEqual(sum(count for answer, count in found), size_of(space), query)
                self.assertEqual([answer for answer, count in found], sorted({answer for answer, count in found}), query)
                self.assertTrue(all(count > 0 for answer, count in found))
        found = answer_counts(LEAVES["subset"], (), ((), "rank", 100))
        self.assertEqual(found, tuple((((), (r,)), comb(100, r) * comb(300, 200 - r)) for r in range(101)))

    def test_large_nested_spaces(self):
        for space, query in [
            (NESTED["subsets"], ((399,), "select", 3)),
            (NESTED["choices"], ((399,), "selected")),
            (NESTED["choices"], ((17, 3), "partner", 2)),
            (NESTED["letters"], ((("c", 66),), "partner", 5)),
            (NESTED["letters"], ((), "letter", 399)),
            (NESTED["leaves"], ((5, 4), "successor", 1)),
            (NESTED["trees"], ((0,), "parent", 399)),
            (NESTED["deepest"], ((1, 1, 2, ("a", 1), 2), "predecessor", 3)),
            (NESTED["below"], ((5, 0), "selected")),
        ]:
            with at_once():
                found = answer_counts(space, (), query)
            self.assertEqual(sum(count for answer, count in found), size_of(space), query)
            self.assertGreater(len(found), 1)

    def test_deepest(self):
        space, query = NESTED["deepest"], ((1, 1, 2, ("a", 1), 2), "predecessor", 3)
        size, walks = size_of(space), 6
        inner = (size - walks) // 94
        wanted = [(((1, 0), ()), inner * 70)] + [(((1, 2), (seat,)), inner * factorial(3)) for seat in (0, 1, 2, 4)]
        self.assertEqual(answer_counts(space, (), query), tuple(wanted) + ((((2,), ()), walks),))


if __name__ == "__main__":
    unittest.main()
