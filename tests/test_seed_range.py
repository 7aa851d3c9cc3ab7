"""The ranges of seeds for observations."""

import unittest

from tests.brute_answers import queries_of
from tests.brute_counts import listed, matching, mixtures
from tests.changes import unchanged
from tests.large import LEAVES, NESTED, at_once
from tests.samples import NONE, ONE, all_small, just_below
from undrawn.samplers import Sampler
from undrawn.spaces import size_of
from undrawn.strategies import seed_range

SUBSET = ("subset", 3, 1)


def seeds_for(space, observations):
    """All seeds with which a new sampler makes the observations."""
    found = []
    for seed in range(len(listed(space)[0])):
        sampler = Sampler(space, seed)
        if all(sampler.ask(query) == answer for query, answer in observations):
            found.append(seed)
    return found


class SeedRangeTest(unittest.TestCase):
    def test_document(self):
        self.assertEqual(seed_range(SUBSET, ((((), "contains", 0), ((), (True,))),)), (2, 1))

    def test_interface(self):
        self.assertEqual(seed_range(space=SUBSET, observations=()), (0, 3))

    def test_no_observations(self):
        for space in all_small():
            self.assertEqual(seed_range(space, ()), (0, len(listed(space)[0])))

    def test_without_objects(self):
        for space in (NONE, ("choice", (NONE,)), ("power", 2, NONE), ("walk", 1, 0, 0, 0, 0)):
            self.assertEqual(seed_range(space, ()), (0, 0))

    def test_one_object(self):
        self.assertEqual(seed_range(ONE, ((((), "successor", 0), ((), (0,))),) * 30), (0, 1))

    def test_all_seeds(self):
        for space in all_small():
            for observations in mixtures(space, 10, "range") if len(listed(space)[0]) <= 60 else ():
                seeds = seeds_for(space, observations)
                wanted = (seeds[0], len(seeds)) if seeds else (0, 0)
                self.assertEqual(seed_range(space, observations), wanted, (space, observations))
                self.assertEqual(seeds, list(range(wanted[0], sum(wanted))))
                self.assertEqual(len(seeds), len(matching(space, observations)))
                self.assertTrue(unchanged(seed_range, space, observations))

    def test_order_matters_for_the_first_seed_only(self):
        one, two = (((), "contains", 2), ((), (False,))), (((), "contains", 0), ((), (True,)))
        self.assertEqual(seed_range(SUBSET, (one, two)), (1, 1))
        self.assertEqual(seed_range(SUBSET, (two, one)), (2, 1))

    def test_contradictions(self):
        yes, no = (((), "contains", 2), ((), (True,))), (((), "contains", 2), ((), (False,)))
        other = (((), "contains", 1), ((), (True,)))
        for observations in [(yes, no), (no, yes), (yes, other), (other, yes), (other, yes, other), (no, other, yes)]:
            self.assertEqual(seed_range(SUBSET, observations), (0, 0))
        self.assertEqual(seed_range(SUBSET, (yes, yes)), (2, 1))

    def test_fast(self):
        spaces = list(LEAVES.values()) + list(NESTED.values()) + [just_below()]
        for space in spaces:
            queries = queries_of(space)
            sampler = Sampler(space, size_of(space) * 5 // 8)
            with at_once():
                for query in queries[3:: 1 + len(queries) // 30]:
                    sampler.ask(query)
                first, length = seed_range(space, sampler.history())
                self.assertEqual((first + sampler.seed_now(), length), (size_of(space) * 5 // 8, sampler.bound_now()))

    def test_more_answers_than_can_be_listed(self):
        for name, query in [("word", ((), "prefix", 200)), ("parallel", ((), "entry", 250)), ("lopsided", ((), "locate", "naab"))]:
            with at_once(2):
                sampler = Sampler(LEAVES[name], size_of(LEAVES[name]) // 2)
                answer = sampler.ask(query)
                first, length = seed_range(LEAVES[name], ((query, answer),))
                self.assertEqual((first + sampler.seed_now(), length), (size_of(LEAVES[name]) // 2, sampler.bound_now()))
                self.assertEqual(Sampler(LEAVES[name], first).ask(query), answer)
                self.assertNotEqual(Sampler(LEAVES[name], first - 1).ask(query), answer)


if __name__ == "__main__":
    unittest.main()
