"""The fraction of the matching objects that give an answer."""

import unittest
from fractions import Fraction
from math import comb

from tests.brute_answers import queries_of
from tests.brute_counts import counted, mixtures
from tests.changes import ODDITIES, changed, unchanged
from tests.large import LEAVES, NESTED, at_once
from tests.samples import NONE, ONE, all_small
from undrawn.counting import probability
from undrawn.errors import NoMatch

CONTRADICTION = ((((), "contains", 0), ((), (True,))), (((), "contains", 0), ((), (False,))))


class ProbabilityTest(unittest.TestCase):
    def test_document(self):
        self.assertEqual(probability(("cycle", 4), (), ((), "successor", 0), ((), (1,))), (1, 3))

    def test_interface(self):
        self.assertEqual(probability(space=ONE, observations=(), query=((), "successor", 0), answer=((), (0,))), (1, 1))
        self.assertEqual(probability.__module__, "undrawn.counting")

    def test_mixtures(self):
        for space in all_small():
            queries = queries_of(space)
            for k, observations in enumerate(mixtures(space, 30, "chance") if queries else []):
                query = queries[k * 5 % len(queries)]
                table = counted(space, observations, query)
                total = sum(count for answer, count in table)
                for answer, count in table:
                    found = probability(space, observations, query, answer)
                    self.assertEqual(found, Fraction(count, total).as_integer_ratio(), (space, observations, query, answer))
                    self.assertEqual([type(number) for number in found], [int, int])
                if table:
                    self.assertTrue(unchanged(probability, space, observations, query, table[0][0]))

    def test_answers_that_nobody_gives(self):
        for space in all_small():
            for query in queries_of(space)[::5]:
                table = counted(space, (), query)
                known = {repr(answer) for answer, count in table}
                for value in [other for answer, count in table[:3] for other in changed(answer)]:
                    if repr(value) not in known:
                        self.assertEqual(probability(space, (), query, value), (0, 1), (space, query, value))

    def test_any_value(self):
        for space in (("cycle", 3), ("subset", 3, 1), ("choice", (("cycle", 3), ONE)), ("walk", 2, 0, 0, -1, 1)):
            for query in queries_of(space):
                known = {repr(answer) for answer, count in counted(space, (), query)}
                values = ODDITIES + [((), (value,)) for value in ODDITIES] + [((value,), ()) for value in ODDITIES]
                for value in values + [(value, value) for value in ODDITIES] + [((0,), (value,)) for value in ODDITIES]:
                    if repr(value) not in known:
                        self.assertEqual(probability(space, (), query, value), (0, 1), (space, query, value))
                        self.assertTrue(unchanged(probability, space, (), query, value))

    def test_integers_and_booleans(self):
        self.assertEqual(probability(("subset", 2, 1), (), ((), "contains", 0), ((), (1,))), (0, 1))
        self.assertEqual(probability(("cycle", 2), (), ((), "successor", 0), ((), (True,))), (0, 1))
        self.assertEqual(probability(("choice", (ONE, ONE)), (), ((1,), "successor", 0), ((True,), (0,))), (0, 1))
        self.assertEqual(probability(("choice", (ONE, ONE)), (), ((1,), "successor", 0), ((False,), ())), (0, 1))
        self.assertEqual(probability(("walk", 1, 0, 1, 0, 1), (), ((), "first_visit", 0, 1), ((), ((0, (True,)),))), (0, 1))
        self.assertEqual(probability(("word", (("a", 1), ("b", 1))), (), ((), "prefix", 1), ((), ((True, False),))), (0, 1))

    def test_no_match(self):
        for answer in [((), (0,)), ((), ())] + ODDITIES:
            with self.assertRaises(NoMatch) as caught:
                probability(NONE, (), ((), "image", 0), answer)
            self.assertEqual(caught.exception.observations, ())
            with self.assertRaises(NoMatch) as caught:
                probability(("subset", 5, 2), CONTRADICTION, ((), "rank", 1), answer)
            self.assertIs(caught.exception.observations, CONTRADICTION)

    def test_answers_of_contradicting_observations(self):
        found = probability(("subset", 5, 2), CONTRADICTION[:1], ((), "contains", 0), ((), (False,)))
        self.assertEqual(found, (0, 1))

    def test_limits(self):
        with at_once():
            found = probability(LEAVES["word"], (), ((), "prefix", 6), ((), ((1, 1, 1, 1, 1, 1),)))
            self.assertEqual(Fraction(*found), Fraction(67**4 * 66**2, comb(400, 6)))
            found = probability(LEAVES["walk"], (), ((), "first_visit", 0, 30), ((), ((0, (30,)),)))
            self.assertEqual(Fraction(*found), Fraction(1, comb(60, 30)))
            self.assertEqual(probability(LEAVES["tree"], (), ((), "parent", 399), ((), (0,))), (1, 200))
            found = probability(NESTED["below"], (), ((0,), "selected"), ((), (1,)))
            self.assertEqual(found, (1, 10**2000 + 1))
            self.assertEqual(probability(NESTED["subsets"], (), ((399,), "select", 0), ((), (0,))), (1, 2))
            self.assertEqual(probability(NESTED["trees"], (), ((0,), "parent", 1), ((), (1,))), (0, 1))


if __name__ == "__main__":
    unittest.main()
