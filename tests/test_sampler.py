"""Creating, comparing and asking samplers."""

import unittest

from tests.brute_answers import queries_of
from tests.brute_counts import listed, matching, mixtures
from tests.brute_sampler import BruteSampler
from tests.changes import ODDITIES, changed, unchanged
from tests.large import LEAVES, NESTED, at_once
from tests.samples import NONE, ONE, all_small, just_below, tens
from undrawn.errors import InvalidObservation, InvalidQuery, InvalidSeed, InvalidSpace, NoMatch
from undrawn.samplers import Sampler
from undrawn.spaces import size_of

SUBSET = ("subset", 5, 2)
YES = (((), "contains", 0), ((), (True,)))
NO = (((), "contains", 0), ((), (False,)))


def raised(function, *arguments):
    """The error of a call, its class and its attributes."""
    try:
        function(*arguments)
    except Exception as error:
        return type(error), dict(vars(error))
    return None


def view(sampler):
    """All that can be seen of a sampler."""
    return sampler.space_used(), sampler.history(), sampler.seed_now(), sampler.bound_now(), sampler.log(), len(sampler)


class CreationTest(unittest.TestCase):
    def test_document(self):
        self.assertEqual(raised(Sampler, SUBSET, 10), (InvalidSeed, {"bound": 10}))

    def test_interface(self):
        sampler = Sampler(space=SUBSET, seed=3, observations=(YES,))
        self.assertEqual(view(sampler), (SUBSET, (YES,), 3, 4, (), 1))
        self.assertEqual(view(Sampler(SUBSET, 3)), (SUBSET, (), 3, 10, (), 0))
        methods = "space_used seed_now bound_now history ask retract perform log rewind complete __len__ __eq__ __init__".split()
        self.assertEqual([name for name in methods if name not in vars(Sampler)], [])
        self.assertEqual(Sampler.__module__, "undrawn.samplers")

    def test_spaces(self):
        for value in ODDITIES + [("subset", 2, 3), ["subset", 2, 1], ("subset", 2, True), tens(4000)]:
            for seed in (0, None):
                self.assertEqual(raised(Sampler, value, seed, None), (InvalidSpace, {"value": value}))
                self.assertEqual(raised(Sampler, value, seed), (InvalidSpace, {"value": value}))
        with self.assertRaises(InvalidSpace) as caught:
            Sampler(ODDITIES[-2], 0)
        self.assertIs(caught.exception.value, ODDITIES[-2])

    def test_seeds(self):
        for space in all_small():
            size = len(listed(space)[0])
            for seed in {0, size // 2, size - 1} if size else ():
                sampler = Sampler(space, seed)
                self.assertEqual(view(sampler), (space, (), seed, size, (), 0))
            for seed in [size, size + 1, -1, 10**4001, None, "0", (0,), [0], True, False, {}]:
                wanted = (InvalidSeed, {"bound": size}) if size else (NoMatch, {"observations": ()})
                self.assertEqual(raised(Sampler, space, seed), wanted)

    def test_seeds_with_observations(self):
        for space in all_small():
            for observations in mixtures(space, 12, "seeds"):
                bound = len(matching(space, observations))
                if bound == 0:
                    self.assertEqual(raised(Sampler, space, 0, observations), (NoMatch, {"observations": observations}))
                else:
                    sampler = Sampler(space, bound - 1, observations)
                    self.assertEqual(view(sampler), (space, observations, bound - 1, bound, (), len(observations)))
                    self.assertEqual(raised(Sampler, space, bound, observations), (InvalidSeed, {"bound": bound}))

    def test_observations(self):
        for value in ODDITIES:
            if not isinstance(value, tuple):
                self.assertEqual(raised(Sampler, SUBSET, None, value), (InvalidObservation, {"index": -1}))
            if value != ():
                wanted = (InvalidObservation, {"index": 0 if isinstance(value, tuple) else -1})
                self.assertEqual(raised(Sampler, SUBSET, 0, value), wanted)
            self.assertEqual(raised(Sampler, SUBSET, 0, (YES, NO, value, None)), (InvalidObservation, {"index": 2}))
        self.assertEqual(raised(Sampler, SUBSET, 0, [YES]), (InvalidObservation, {"index": -1}))
        given = [(query, answer) for query, answers in listed(SUBSET)[2].items() for answer in answers]
        for value in changed(YES):
            if repr(value) not in {repr(observation) for observation in given}:
                self.assertEqual(raised(Sampler, SUBSET, 0, (YES, value)), (InvalidObservation, {"index": 1}))

    def test_order_of_the_errors(self):
        self.assertEqual(raised(Sampler, None, None, None), (InvalidSpace, {"value": None}))
        self.assertEqual(raised(Sampler, NONE, None, None), (InvalidObservation, {"index": -1}))
        self.assertEqual(raised(Sampler, NONE, None, (YES,)), (InvalidObservation, {"index": 0}))
        self.assertEqual(raised(Sampler, NONE, None, ()), (NoMatch, {"observations": ()}))
        self.assertEqual(raised(Sampler, SUBSET, None, (YES, NO, YES)), (NoMatch, {"observations": (YES, NO, YES)}))
        self.assertEqual(raised(Sampler, SUBSET, None, (YES, YES)), (InvalidSeed, {"bound": 4}))

    def test_a_space_of_one_object(self):
        for space in (ONE, ("matching", 0), ("power", 0, NONE), ("choice", (NONE, ONE))):
            self.assertEqual(view(Sampler(space, 0)), (space, (), 0, 1, (), 0))
            self.assertEqual(raised(Sampler, space, 1), (InvalidSeed, {"bound": 1}))

    def test_the_largest_space(self):
        with at_once():
            size = 10**4000 - 1
            self.assertEqual(Sampler(just_below(), size - 1).bound_now(), size)
            self.assertEqual(raised(Sampler, just_below(), size), (InvalidSeed, {"bound": size}))

    def test_long_histories(self):
        observations = tuple((((), "contains", p), ((), (p % 2 == 0,))) for p in range(400))
        self.assertEqual(view(Sampler(LEAVES["subset"], 0, observations)), (LEAVES["subset"], observations, 0, 1, (), 400))


class EqualityTest(unittest.TestCase):
    def test_equal(self):
        sampler = Sampler(SUBSET, 5)
        self.assertTrue(sampler == Sampler(SUBSET, 5))
        self.assertFalse(sampler != Sampler(SUBSET, 5))
        sampler.ask(((), "contains", 0))
        other = Sampler(SUBSET, sampler.seed_now(), sampler.history())
        self.assertTrue(sampler == other)
        self.assertNotEqual(sampler.log(), other.log())

    def test_different(self):
        sampler = Sampler(SUBSET, 3, (YES,))
        seen = (((), "rank", 0), ((), (0,)))
        others = [Sampler(SUBSET, 2, (YES,)), Sampler(SUBSET, 3, (YES, YES)), Sampler(SUBSET, 3), Sampler(("subset", 6, 2), 3, (YES,))]
        self.assertEqual([sampler == other for other in others], [False] * 4)
        self.assertFalse(Sampler(SUBSET, 3, (YES, seen)) == Sampler(SUBSET, 3, (seen, YES)))
        self.assertFalse(Sampler(("cycle", 3), 0) == Sampler(("choice", (("cycle", 3),)), 0))

    def test_other_values(self):
        sampler = Sampler(SUBSET, 3)
        for value in ODDITIES + [SUBSET, (SUBSET, (), 3), object(), Sampler]:
            self.assertIs(sampler == value, False)
            self.assertIs(sampler != value, True)

    def test_every_state_equals_a_new_sampler(self):
        for space in all_small():
            _, queries, _ = listed(space)
            for k, observations in enumerate(mixtures(space, 6, "equal")):
                bound = len(matching(space, observations))
                if bound > 0 and queries:
                    sampler = Sampler(space, k % bound, observations)
                    sampler.ask(queries[k * 3 % len(queries)])
                    self.assertEqual(sampler, Sampler(space, sampler.seed_now(), sampler.history()))


class AskTest(unittest.TestCase):
    def test_document(self):
        sampler = Sampler(SUBSET, 5)
        first = sampler.ask(((), "select", 0))
        seed, bound = sampler.seed_now(), sampler.bound_now()
        second = sampler.ask(((), "contains", 3))
        self.assertEqual((first, seed, bound, second, sampler.seed_now()), (((), (1,)), 1, 3, ((), (False,)), 1))

    def test_all_seeds_and_queries(self):
        for space in all_small():
            objects, queries, answers = listed(space)
            for query in queries[:: 1 + len(objects) * len(queries) // 1500]:
                found = []
                for seed in range(len(objects)):
                    sampler, brute = Sampler(space, seed), BruteSampler(space, seed)
                    found.append(sampler.ask(query))
                    self.assertEqual(repr(found[-1]), repr(brute.ask(query)), (space, query, seed))
                    self.assertEqual((sampler.seed_now(), sampler.bound_now()), (brute.seed, brute.bound()))
                self.assertEqual(found, sorted(answers[query]), (space, query))

    def test_sequences(self):
        for space in all_small():
            for k, observations in enumerate(mixtures(space, 12, "ask")):
                seed = k * 31 % max(1, len(listed(space)[0]))
                sampler, brute = (Sampler(space, seed), BruteSampler(space, seed)) if listed(space)[0] else (None, None)
                for query, _ in observations:
                    self.assertEqual(repr(sampler.ask(query)), repr(brute.ask(query)), (space, seed, observations))
                    wanted = (space, brute.observations, brute.seed, brute.bound(), tuple(brute.actions), len(brute.observations))
                    self.assertEqual(view(sampler), wanted)

    def test_with_observations(self):
        for space in all_small():
            for observations in mixtures(space, 10, "given")[1:]:
                bound = len(matching(space, observations[1:]))
                for seed in range(0, bound, 1 + bound // 6):
                    sampler, brute = Sampler(space, seed, observations[1:]), BruteSampler(space, seed, observations[1:])
                    self.assertEqual(repr(sampler.ask(observations[0][0])), repr(brute.ask(observations[0][0])))
                    self.assertEqual(view(sampler)[1:3], (brute.observations, brute.seed))

    def test_determined_queries_are_kept_in_the_history(self):
        sampler = Sampler(("subset", 3, 3), 0)
        for _ in range(3):
            self.assertEqual(sampler.ask(((), "contains", 1)), ((), (True,)))
        self.assertEqual(view(sampler)[1:], (((((), "contains", 1), ((), (True,))),) * 3, 0, 1, (("ask", ((), "contains", 1)),) * 3, 3))

    def test_invalid_queries_change_nothing(self):
        for space in (SUBSET, NESTED["deepest"], ONE):
            sampler = Sampler(space, 0, ())
            sampler.ask(queries_of(space)[0])
            before = view(sampler)
            for value in ODDITIES + changed(queries_of(space)[0]):
                if repr(value) not in {repr(query) for query in queries_of(space)}:
                    self.assertEqual(raised(sampler.ask, value), (InvalidQuery, {"value": value}))
                    self.assertEqual(view(sampler), before)
        with self.assertRaises(InvalidQuery) as caught:
            sampler.ask(ODDITIES[-2])
        self.assertIs(caught.exception.value, ODDITIES[-2])

    def test_arguments_stay_as_they_are(self):
        self.assertTrue(unchanged(lambda *arguments: view(Sampler(*arguments)), SUBSET, 2, (YES,)))
        for value in ODDITIES:
            self.assertTrue(unchanged(lambda query: raised(Sampler(SUBSET, 2).ask, query), value))
            self.assertTrue(unchanged(lambda space: raised(Sampler, space, 0)[0], value))
            self.assertTrue(unchanged(lambda seed: raised(Sampler, ("permutation", 1, (0,)), seed), value))

    def test_samplers_share_nothing(self):
        observations = (YES,)
        first, second = Sampler(SUBSET, 2, observations), Sampler(SUBSET, 2, observations)
        first.ask(((), "select", 1))
        self.assertEqual(view(second), view(Sampler(SUBSET, 2, observations)))
        self.assertEqual(second.ask(((), "select", 1)), first.history()[-1][1])

    def test_large_spaces(self):
        for space in list(LEAVES.values()) + list(NESTED.values()):
            queries = queries_of(space)
            size = size_of(space)
            with at_once():
                sampler = Sampler(space, size * 5 // 7)
                for query in queries[:: 1 + len(queries) // 60]:
                    answer = sampler.ask(query)
                    self.assertEqual(sampler.history()[-1], (query, answer))
                    self.assertTrue(0 <= sampler.seed_now() < sampler.bound_now())
                self.assertEqual(sampler, Sampler(space, sampler.seed_now(), sampler.history()))

    def test_first_and_last_seeds(self):
        size = size_of(LEAVES["word"])
        self.assertEqual(Sampler(LEAVES["word"], 0).ask(((), "prefix", 10)), ((), ((0, 0, 0, 0, 0, 10),)))
        self.assertEqual(Sampler(LEAVES["word"], size - 1).ask(((), "prefix", 10)), ((), ((10, 0, 0, 0, 0, 0),)))
        self.assertEqual(Sampler(LEAVES["tree"], 0).ask(((), "parent", 3)), ((), (0,)))
        self.assertEqual(Sampler(LEAVES["tree"], 400**398 - 1).ask(((), "parent", 3)), ((), (399,)))
        self.assertEqual(Sampler(NESTED["deepest"], 0).ask(((2,), "height", 2)), ((1,), ()))
        self.assertEqual(Sampler(NESTED["deepest"], size_of(NESTED["deepest"]) - 1).ask(((2,), "height", 2)), ((2,), (2,)))


if __name__ == "__main__":
    unittest.main()
