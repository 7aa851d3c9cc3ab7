"""Sequences of actions, and the seeds that lead to what is left."""

import unittest
from collections import Counter
from random import Random

from tests.brute_answers import queries_of
from tests.brute_counts import listed, matching
from tests.brute_sampler import BruteSampler
from tests.brute_strategies import answers_in
from tests.changes import unchanged
from tests.large import LEAVES, NESTED, at_once
from tests.samples import NONE, ONE, all_small
from undrawn.actions import count_seeds, run_actions
from undrawn.samplers import Sampler
from undrawn.spaces import size_of

SUBSET = ("subset", 5, 2)
SELECT, CONTAINS = ((), "select", 0), ((), "contains", 3)
ACTIONS = (("ask", SELECT), ("ask", CONTAINS), ("retract", 0))


def random_actions(random, queries, many):
    actions, length = (), 0
    while len(actions) < many:
        if length == 0 or random.random() < 0.6:
            actions += (("ask", random.choice(queries)),)
            length += 1
        else:
            actions += (("retract", random.randrange(length)),)
            length -= 1
    return actions


def remaining(actions):
    """The queries that remain after the actions."""
    left = []
    for word, value in actions:
        if word == "ask":
            left.append(value)
        else:
            del left[value]
    return left


class RunActionsTest(unittest.TestCase):
    def test_document(self):
        self.assertEqual(run_actions(SUBSET, ACTIONS, 5), ((CONTAINS, ((), (False,))),))

    def test_interface(self):
        self.assertEqual(run_actions(space=SUBSET, actions=ACTIONS, seed=5), ((CONTAINS, ((), (False,))),))
        self.assertEqual({run_actions.__module__, count_seeds.__module__}, {"undrawn.actions"})

    def test_no_actions(self):
        for space in all_small():
            for seed in {0, len(listed(space)[0]) - 1} if listed(space)[0] else ():
                self.assertEqual(run_actions(space, (), seed), ())

    def test_small_spaces(self):
        for space in all_small():
            objects, queries, _ = listed(space)
            random = Random(f"run {space}")
            for many in (1, 3, 6, 12) if objects and queries else ():
                actions = random_actions(random, queries, many)
                seed = random.randrange(len(objects))
                brute = BruteSampler(space, seed)
                for word, value in actions:
                    brute.ask(value) if word == "ask" else brute.retract(value)
                self.assertEqual(repr(run_actions(space, actions, seed)), repr(brute.observations))
                self.assertTrue(unchanged(run_actions, space, actions, seed))

    def test_everything_retracted(self):
        actions = (("ask", SELECT), ("ask", CONTAINS), ("retract", 1), ("retract", 0))
        for seed in range(10):
            self.assertEqual(run_actions(SUBSET, actions, seed), ())

    def test_asked_again_at_once(self):
        for seed in range(10):
            kept = run_actions(SUBSET, ACTIONS[:2], seed)
            again = run_actions(SUBSET, ACTIONS + (("ask", SELECT),), seed)
            self.assertEqual(again, kept[::-1])

    def test_forty_actions(self):
        for space in list(LEAVES.values()) + list(NESTED.values()):
            queries = queries_of(space)
            actions = random_actions(Random(1), queries, 40)
            seed = size_of(space) * 2 // 3
            with at_once():
                sampler = Sampler(space, seed)
                for action in actions:
                    sampler.perform(action)
                self.assertEqual(run_actions(space, actions, seed), sampler.history())


class CountSeedsTest(unittest.TestCase):
    def test_document(self):
        self.assertEqual(count_seeds(SUBSET, ACTIONS, ((CONTAINS, ((), (False,))),)), 6)

    def test_interface(self):
        self.assertEqual(count_seeds(space=SUBSET, actions=(), observations=()), 10)

    def test_no_actions(self):
        for space in all_small():
            self.assertEqual(count_seeds(space, (), ()), len(listed(space)[0]))

    def test_without_objects(self):
        query = ((), "image", 0)
        self.assertEqual(count_seeds(NONE, (), ()), 0)
        self.assertEqual(count_seeds(NONE, (("ask", query), ("retract", 0)), ()), 0)

    def test_all_seeds(self):
        for space in all_small():
            objects, queries, _ = listed(space)
            random = Random(f"count {space}")
            for many in (1, 2, 4, 7) if queries and 0 < len(objects) <= 60 else ():
                actions = random_actions(random, queries, many)
                found = Counter(run_actions(space, actions, seed) for seed in range(len(objects)))
                for observations, seeds in found.items():
                    self.assertEqual(count_seeds(space, actions, observations), seeds, (space, actions, observations))
                    self.assertEqual(seeds, len(matching(space, observations)))
                    self.assertTrue(unchanged(count_seeds, space, actions, observations))
                for _ in range(5):
                    guess = tuple((query, random.choice(answers_in(space, query))) for query in remaining(actions))
                    self.assertEqual(count_seeds(space, actions, guess), found[guess])

    def test_everything_retracted(self):
        actions = (("ask", SELECT), ("retract", 0), ("ask", CONTAINS), ("ask", SELECT), ("retract", 1), ("retract", 0))
        self.assertEqual(count_seeds(SUBSET, actions, ()), 10)

    def test_asked_again(self):
        actions = ACTIONS + (("ask", SELECT), ("ask", SELECT))
        for first in range(5):
            for second in range(5):
                observations = ((CONTAINS, ((), (False,))), (SELECT, ((), (first,))), (SELECT, ((), (second,))))
                wanted = [seed for seed in range(10) if run_actions(SUBSET, actions, seed) == observations]
                self.assertEqual(count_seeds(SUBSET, actions, observations), len(wanted))

    def test_one_object(self):
        query = ((), "successor", 0)
        self.assertEqual(count_seeds(ONE, (("ask", query),) * 40, ((query, ((), (0,))),) * 40), 1)

    def test_limits(self):
        for space in list(LEAVES.values()) + list(NESTED.values()):
            queries = queries_of(space)
            actions = random_actions(Random(2), queries, 40)
            with at_once():
                observations = run_actions(space, actions, size_of(space) // 2)
                self.assertEqual([query for query, _ in observations], remaining(actions))
                self.assertGreater(count_seeds(space, actions, observations), 0)


if __name__ == "__main__":
    unittest.main()
