"""Retracting, performing actions, the log and rewinding."""

import unittest
from random import Random

from tests.brute_answers import queries_of
from tests.brute_counts import listed, matching
from tests.brute_sampler import BruteSampler
from tests.changes import ODDITIES, changed, unchanged
from tests.large import LEAVES, NESTED, at_once
from tests.samples import ONE, all_small
from tests.test_sampler import SUBSET, YES, raised, view
from undrawn.errors import InvalidAction, InvalidObservation, InvalidQuery, InvalidRewind
from undrawn.samplers import Sampler
from undrawn.spaces import size_of

SELECT, CONTAINS = ((), "select", 0), ((), "contains", 3)


def brute_view(brute):
    return brute.space, brute.observations, brute.seed, brute.bound(), tuple(brute.actions), len(brute.observations)


def asked(space=SUBSET, seed=5, queries=(SELECT, CONTAINS)):
    sampler = Sampler(space, seed)
    for query in queries:
        sampler.ask(query)
    return sampler


class RetractTest(unittest.TestCase):
    def test_document(self):
        sampler = asked()
        self.assertIsNone(sampler.retract(0))
        self.assertEqual((sampler.seed_now(), sampler.bound_now()), (4, 6))
        self.assertEqual((sampler.seed_now(), sampler.ask(SELECT)), (4, ((), (1,))))

    def test_asked_again_at_once(self):
        for space in all_small():
            objects, queries, _ = listed(space)
            random = Random(f"again {space}")
            for seed in range(0, len(objects), 1 + len(objects) // 5):
                picked = [random.choice(queries) for _ in range(4)] if queries else []
                for index in range(len(picked)):
                    sampler = asked(space, seed, picked)
                    kept = sampler.seed_now(), sampler.bound_now()
                    query, answer = sampler.history()[index]
                    rest = sampler.history()[:index] + sampler.history()[index + 1:]
                    sampler.retract(index)
                    self.assertEqual(sampler, Sampler(space, sampler.seed_now(), rest))
                    self.assertEqual(sampler.ask(query), answer)
                    self.assertEqual((sampler.seed_now(), sampler.bound_now()), kept)

    def test_index(self):
        for length in range(4):
            sampler = asked(queries=[SELECT, CONTAINS, ((), "rank", 2)][:length])
            before = view(sampler)
            for index in [length, length + 1, -1, 10**4000, True, False, None, "0", (0,), [0], {}, ()]:
                self.assertEqual(raised(sampler.retract, index), (InvalidObservation, {"index": index}))
                self.assertEqual(view(sampler), before)
            for index in range(length):
                sampler = asked(queries=[SELECT, CONTAINS, ((), "rank", 2)][:length])
                sampler.retract(index)
                self.assertEqual(len(sampler), length - 1)

    def test_first_observations_can_be_retracted(self):
        sampler = Sampler(SUBSET, 3, (YES,))
        sampler.retract(0)
        # The six subsets without 0 answer False, which is before True.
        self.assertEqual(view(sampler), (SUBSET, (), 9, 10, (("retract", 0),), 0))

    def test_duplicates(self):
        sampler = asked(queries=[SELECT, SELECT])
        kept = sampler.seed_now(), sampler.bound_now()
        sampler.retract(0)
        self.assertEqual((sampler.seed_now(), sampler.bound_now()), kept)
        sampler.retract(0)
        self.assertEqual((sampler.seed_now(), sampler.bound_now()), (5, 10))

    def test_each_seed_once(self):
        # After fixed actions each seed of each remaining history is reached by as many seeds as match the retracted one.
        for space in all_small():
            objects, queries, _ = listed(space)
            if queries and len(objects) < 100:
                first, second = queries[0], queries[-1]
                found = {}
                for seed in range(len(objects)):
                    sampler = asked(space, seed, [first, second])
                    sampler.retract(0)
                    found[sampler.history()] = found.get(sampler.history(), 0) + 1
                self.assertEqual(found, {history: len(matching(space, history)) for history in found})

    def test_large_spaces(self):
        for space in list(LEAVES.values()) + list(NESTED.values()):
            queries = queries_of(space)
            with at_once():
                sampler = asked(space, size_of(space) // 3, queries[:: 1 + len(queries) // 40])
                while len(sampler) > 0:
                    index = len(sampler) * 2 // 3
                    query, answer = sampler.history()[index]
                    sampler.retract(index)
                    self.assertTrue(0 <= sampler.seed_now() < sampler.bound_now())
                self.assertEqual(sampler.bound_now(), size_of(space))
                self.assertEqual(sampler, Sampler(space, sampler.seed_now()))
                self.assertEqual(sampler.ask(query), answer)


class ActionTest(unittest.TestCase):
    def test_document(self):
        self.assertEqual(raised(Sampler(SUBSET, 5).perform, ("ask", "nothing")), (InvalidQuery, {"value": "nothing"}))

    def test_perform(self):
        sampler, other = Sampler(SUBSET, 5), Sampler(SUBSET, 5)
        self.assertEqual(sampler.perform(("ask", SELECT)), other.ask(SELECT))
        self.assertEqual(sampler.perform(action=("ask", CONTAINS)), other.ask(query=CONTAINS))
        self.assertEqual(view(sampler), view(other))
        self.assertIsNone(sampler.perform(("retract", 0)))
        other.retract(index=0)
        self.assertEqual(view(sampler), view(other))
        self.assertEqual(sampler.log(), (("ask", SELECT), ("ask", CONTAINS), ("retract", 0)))

    def test_invalid_actions(self):
        sampler = asked()
        before = view(sampler)
        values = ODDITIES + [("ask",), ("ask", SELECT, SELECT), ["ask", SELECT], ("asks", SELECT), ("Ask", SELECT), ("rewind", 0), ("complete",)]
        for value in values + [(None, SELECT), (True, 0), (["ask"], SELECT), (("ask", SELECT),), ("", 0), {"ask": SELECT}, ("log", ())]:
            self.assertEqual(raised(sampler.perform, value), (InvalidAction, {"value": value}))
            self.assertEqual(view(sampler), before)
            self.assertTrue(unchanged(lambda action: raised(sampler.perform, action), value))

    def test_errors_of_the_methods(self):
        sampler = asked()
        before = view(sampler)
        for value in ODDITIES + [value for value in changed(SELECT) if repr(value) not in map(repr, queries_of(SUBSET))]:
            self.assertEqual(raised(sampler.perform, ("ask", value)), (InvalidQuery, {"value": value}))
            if repr(value) not in ("0", "1"):
                self.assertEqual(raised(sampler.perform, ("retract", value)), (InvalidObservation, {"index": value}))
            self.assertEqual(view(sampler), before)

    def test_log_is_only_of_this_sampler(self):
        sampler = Sampler(SUBSET, 3, (YES,))
        self.assertEqual(sampler.log(), ())
        sampler.ask(CONTAINS)
        log = sampler.log()
        sampler.ask(SELECT)
        self.assertEqual((log, len(sampler.log())), ((("ask", CONTAINS),), 2))
        self.assertEqual(Sampler(SUBSET, 3, sampler.history()[:1]).log(), ())


class RewindTest(unittest.TestCase):
    def test_document(self):
        sampler = asked()
        sampler.retract(0)
        self.assertIsNone(sampler.rewind(1))
        self.assertEqual((sampler.seed_now(), sampler.bound_now(), len(sampler.log())), (1, 3, 1))

    def test_each_length(self):
        actions = [("ask", SELECT), ("ask", CONTAINS), ("retract", 0), ("ask", ((), "rank", 2)), ("retract", 1), ("ask", SELECT)]
        for first in ((), (YES,)):
            sampler = Sampler(SUBSET, 3, first)
            views = [view(sampler)]
            for action in actions:
                sampler.perform(action)
                views.append(view(sampler))
            for length in range(len(actions), -1, -1):
                sampler.rewind(length=length)
                self.assertEqual(view(sampler), views[length])
            for action, wanted in zip(actions, views[1:]):
                sampler.perform(action)
                self.assertEqual(view(sampler), wanted)

    def test_wrong_lengths(self):
        sampler = asked()
        before = view(sampler)
        for length in [3, -1, 10**4000, True, False, None, "1", (1,), [1], {}, ()]:
            self.assertEqual(raised(sampler.rewind, length), (InvalidRewind, {"length": length}))
            self.assertEqual(view(sampler), before)
        self.assertEqual(raised(Sampler(ONE, 0).rewind, 1), (InvalidRewind, {"length": 1}))
        sampler.rewind(1)
        self.assertEqual(raised(sampler.rewind, 2), (InvalidRewind, {"length": 2}))

    def test_as_if_never_asked(self):
        sampler = asked()
        sampler.rewind(0)
        self.assertEqual(view(sampler), view(Sampler(SUBSET, 5)))
        self.assertEqual(sampler.ask(CONTAINS), Sampler(SUBSET, 5).ask(CONTAINS))

    def test_any_actions(self):
        for space in all_small():
            objects, queries, _ = listed(space)
            random = Random(f"actions {space}")
            for _ in range(4 if queries and objects else 0):
                seed = random.randrange(len(objects))
                sampler, brute = Sampler(space, seed), BruteSampler(space, seed)
                for _ in range(12):
                    chance = random.random()
                    if chance < 0.6 or not brute.observations:
                        query = random.choice(queries)
                        self.assertEqual(repr(sampler.ask(query)), repr(brute.ask(query)))
                    elif chance < 0.85:
                        index = random.randrange(len(brute.observations))
                        sampler.retract(index)
                        brute.retract(index)
                    else:
                        length = random.randint(0, len(brute.actions))
                        sampler.rewind(length)
                        brute.rewind(length)
                    self.assertEqual(view(sampler), brute_view(brute))
                    self.assertEqual(sampler, Sampler(space, brute.seed, brute.observations))

    def test_a_log_of_100_actions(self):
        for name in ("word", "parallel", "walk", "string", "tree"):
            queries = queries_of(LEAVES[name])
            with at_once():
                sampler = Sampler(LEAVES[name], size_of(LEAVES[name]) // 5)
                views = [view(sampler)]
                for k in range(100):
                    sampler.perform(("retract", k * 7 % len(sampler)) if k % 3 == 2 else ("ask", queries[k * 101 % len(queries)]))
                    views.append(view(sampler))
                for length in (99, 50, 1, 0):
                    sampler.rewind(length)
                    self.assertEqual(view(sampler), views[length])


if __name__ == "__main__":
    unittest.main()
