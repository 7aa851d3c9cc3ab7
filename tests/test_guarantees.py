"""What holds for every strategy, whatever it asks."""

import unittest
from itertools import permutations
from zlib import crc32

from tests.brute_counts import counted, listed, matching, mixtures
from tests.samples import all_small
from undrawn.counting import answer_counts, count_matching
from undrawn.enumeration import object_at, seed_of
from undrawn.samplers import Sampler
from undrawn.strategies import seed_range


def chosen(items, *seen):
    """One of the items, which depends on what was seen."""
    return items[crc32(repr(seen).encode()) % len(items)]


def small():
    return [space for space in all_small() if len(listed(space)[0]) <= 130 and listed(space)[1]]


def follow(space, seed, name, most):
    """The sampler after queries each of which depends on the earlier answers; it stops in different places."""
    sampler = Sampler(space, seed)
    while len(sampler) < most and chosen(range(6), name, "stop", sampler.history()) > 0:
        sampler.ask(chosen(listed(space)[1], name, sampler.history()))
    return sampler


class GuaranteesTest(unittest.TestCase):
    def test_seeds_are_one_range_as_long_as_the_number_of_objects(self):
        for space in small():
            for name in ("one", "two", "three"):
                table = {}
                for seed in range(len(listed(space)[0])):
                    table.setdefault(follow(space, seed, name, 5).history(), []).append(seed)
                for history, seeds in table.items():
                    self.assertEqual(seeds, list(range(seeds[0], seeds[0] + len(matching(space, history)))), (space, history))

    def test_each_seed_ends_at_an_object_of_its_own(self):
        for space in small():
            _, queries, _ = listed(space)
            found = []
            for seed in range(len(listed(space)[0])):
                sampler = follow(space, seed, "whole", 3)
                for query in sorted(queries, key=lambda query: crc32(repr((query, sampler.history()[:1])).encode())):
                    sampler.ask(query)
                self.assertEqual(sampler.bound_now(), 1)
                found += matching(space, sampler.history())
            self.assertEqual(sorted(found), list(range(len(found))), space)

    def test_two_users(self):
        # Each of them chooses by its own answers only.
        for space in small():
            seen = ({}, {})
            for seed in range(len(listed(space)[0])):
                sampler, own = Sampler(space, seed), [(), ()]
                for turn in (0, 1, 1, 0, 1):
                    query = chosen(listed(space)[1], turn, own[turn])
                    own[turn] += ((query, sampler.ask(query)),)
                for table, history in zip(seen, own):
                    table[history] = table.get(history, 0) + 1
            for table in seen:
                self.assertEqual(table, {history: len(matching(space, history)) for history in table}, space)

    def test_fixed_queries_and_retractions(self):
        for space in small():
            for name in ("one", "two"):
                queries = [chosen(listed(space)[1], space, name, k) for k in range(4)]
                table = {}
                for seed in range(len(listed(space)[0])):
                    sampler = Sampler(space, seed)
                    sampler.ask(queries[0])
                    sampler.ask(queries[1])
                    sampler.retract(0)
                    sampler.ask(queries[2])
                    sampler.ask(queries[3])
                    sampler.retract(1)
                    table[sampler.history()] = table.get(sampler.history(), 0) + 1
                self.assertEqual(table, {history: len(matching(space, history)) for history in table}, space)

    def test_counts_do_not_depend_on_the_order(self):
        for space in small():
            for observations in mixtures(space, 8, "order"):
                wanted = len(matching(space, observations))
                shuffled = tuple(chosen(list(permutations(observations)), k, observations) for k in range(4))
                for other in shuffled + (observations[::-1], observations + observations):
                    self.assertEqual(count_matching(space, other), wanted)
                    self.assertEqual(seed_range(space, other)[1], wanted)
                    if wanted:
                        query = chosen(listed(space)[1], other)
                        self.assertEqual(answer_counts(space, other, query), counted(space, observations, query))

    def test_a_retracted_query_is_asked_again_at_once(self):
        for space in small():
            for seed in range(len(listed(space)[0])):
                sampler = follow(space, seed, "again", 4)
                for index in range(len(sampler) if seed % 5 == 0 else 0):
                    query, answer = sampler.history()[index]
                    kept = sampler.seed_now(), sampler.bound_now()
                    sampler.retract(index)
                    self.assertEqual(sampler.ask(query), answer)
                    self.assertEqual((sampler.seed_now(), sampler.bound_now()), kept)
                    sampler.rewind(len(sampler.log()) - 2)

    def test_seeds_and_matching_objects(self):
        for space in small():
            for observations in mixtures(space, 5, "objects"):
                wanted = [repr(listed(space)[0][k]) for k in matching(space, observations)]
                found = [object_at(space, observations, seed) for seed in range(len(wanted))]
                self.assertEqual(sorted(map(repr, found)), sorted(wanted))
                self.assertEqual([seed_of(space, observations, obj) for obj in found], list(range(len(wanted))))

    def test_a_sampler_equals_a_new_one(self):
        for space in small():
            for seed in range(len(listed(space)[0])):
                sampler = follow(space, seed, "equal", 4)
                if len(sampler) > 1:
                    sampler.retract(0)
                new = Sampler(space, sampler.seed_now(), sampler.history())
                self.assertEqual(sampler, new)
                self.assertEqual((sampler.bound_now(), sampler.complete()), (new.bound_now(), new.complete()))
                query = chosen(listed(space)[1], seed)
                self.assertEqual(sampler.ask(query), new.ask(query))
                self.assertEqual(sampler, new)

    def test_undone_from_the_end(self):
        for space in small():
            for seed in range(0, len(listed(space)[0]), 9):
                sampler = follow(space, seed, "undone", 4)
                sampler.rewind(len(sampler.log()) // 2)
                again = Sampler(space, seed)
                for _, query in sampler.log():
                    again.ask(query)
                self.assertEqual((sampler, sampler.log()), (again, again.log()))


if __name__ == "__main__":
    unittest.main()
