"""Completing samplers, and the numbering of objects."""

import unittest

from tests.brute_answers import queries_of
from tests.brute_counts import listed, matching, mixtures
from tests.brute_sampler import BruteSampler
from tests.changes import unchanged
from tests.large import LEAVES, NESTED, at_once, name_of
from tests.samples import NONE, ONE, all_small
from tests.test_sampler import view
from undrawn.enumeration import object_at, seed_of
from undrawn.objects import is_object
from undrawn.samplers import Sampler
from undrawn.spaces import size_of

# Spaces whose query lists have at most 400 queries.
COMPLETED = [space for name, space in NESTED.items() if name in ("deepest", "choices")] + list(LEAVES.values()) + [
    ("power", 400, ("choice", (("tree", 1), NONE, ("matching", 0)))),
    ("power", 50, ("subset", 8, 4)),
    ("power", 100, ("tree", 5)),
    ("power", 6, ("walk", 60, 0, 0, -3, 4)),
    ("decorated", (("a", 60), ("b", 70)), (("cycle", 2), ("tree", 3))),
    ("product", (("tree", 100), ("cycle", 100), ("matching", 50), ("permutation", 60, (1, 2)), ("string", LEAVES["string"][1], 40))),
]


class CompleteTest(unittest.TestCase):
    def test_document(self):
        self.assertEqual(Sampler(("subset", 3, 1), 1).complete(), (1,))

    def test_all_seeds(self):
        for space in all_small():
            objects, _, _ = listed(space)
            found = [Sampler(space, seed).complete() for seed in range(min(len(objects), 300))]
            self.assertEqual(len({repr(obj) for obj in found}), len(found), space)
            self.assertLessEqual({repr(obj) for obj in found}, {repr(obj) for obj in objects}, space)

    def test_order_of_the_queries(self):
        for space in all_small():
            size = len(listed(space)[0])
            for seed in range(0, size, 1 + size // 8):
                wanted = BruteSampler(space, seed).complete()
                self.assertEqual(repr(Sampler(space, seed).complete()), repr(wanted), (space, seed))

    def test_after_observations(self):
        for space in all_small():
            for observations in mixtures(space, 8, "complete"):
                bound = len(matching(space, observations))
                for seed in range(0, bound, 1 + bound // 3):
                    wanted = BruteSampler(space, seed, observations).complete()
                    self.assertEqual(repr(Sampler(space, seed, observations).complete()), repr(wanted), (space, observations, seed))

    def test_changes_nothing(self):
        sampler = Sampler(("choice", (("cycle", 4), ("subset", 5, 2))), 11)
        sampler.ask(((1,), "select", 0))
        sampler.ask(((0,), "successor", 1))
        before = view(sampler)
        first = sampler.complete()
        self.assertEqual((sampler.complete(), view(sampler)), (first, before))
        sampler.retract(0)
        sampler.rewind(2)
        self.assertEqual((sampler.complete(), view(sampler)), (first, before))

    def test_order_in_a_decorated_space(self):
        # The letters come first, then what is attached, letter by letter and not from left to right.
        space = ("decorated", (("a", 1), ("b", 1)), (("subset", 2, 1), ("subset", 2, 1)))
        objects = [Sampler(space, seed).complete() for seed in range(8)]
        self.assertEqual(objects[1], (("a", (1,)), ("b", (0,))))
        self.assertEqual(objects[5], (("b", (0,)), ("a", (1,))))
        self.assertEqual([[letter for letter, _ in obj] for obj in objects], [["a", "b"]] * 4 + [["b", "a"]] * 4)


class ObjectAtTest(unittest.TestCase):
    def test_document(self):
        self.assertEqual(object_at(("subset", 3, 1), (), 2), (0,))

    def test_interface(self):
        self.assertEqual(object_at(space=("subset", 3, 1), observations=(), seed=2), (0,))
        self.assertEqual(object_at.__module__, "undrawn.enumeration")

    def test_as_complete(self):
        for space in all_small():
            for observations in mixtures(space, 6, "object"):
                bound = len(matching(space, observations))
                for seed in range(0, bound, 1 + bound // 5):
                    found = object_at(space, observations, seed)
                    self.assertEqual(repr(found), repr(Sampler(space, seed, observations).complete()))
                    self.assertTrue(unchanged(object_at, space, observations, seed))

    def test_matching_objects_one_by_one(self):
        for space in all_small():
            for observations in mixtures(space, 6, "each"):
                wanted = [listed(space)[0][k] for k in matching(space, observations)][:300]
                if len(wanted) < 300:
                    found = [object_at(space, observations, seed) for seed in range(len(wanted))]
                    self.assertEqual(sorted(map(repr, found)), sorted(map(repr, wanted)), (space, observations))

    def test_one_object(self):
        for space in (ONE, ("tree", 1), ("power", 0, NONE), ("choice", (NONE, ONE)), ("product", (ONE, ("matching", 0)))):
            self.assertEqual([object_at(space, (), 0)], listed(space)[0])

    def test_first_and_last(self):
        for space, first, last in [
            (LEAVES["subset"], tuple(range(200, 400)), tuple(range(200))),
            (LEAVES["two letters"], ("a",) * 200 + ("b",) * 200, ("b",) * 200 + ("a",) * 200),
            (LEAVES["tree"], (None,) + (0,) * 399, None),
            (LEAVES["cycle"], tuple(range(1, 400)) + (0,), None),
            (LEAVES["matching"], tuple(k + 1 - k % 2 * 2 for k in range(400)), tuple(range(399, -1, -1))),
            (LEAVES["walk"], tuple(-min(k, 60 - k) for k in range(61)), tuple(min(k, 60 - k) for k in range(61))),
            (LEAVES["permutation"], tuple(k + 1 - k % 2 * 2 for k in range(60)), tuple(range(59, -1, -1))),
            (("arrangement", ("series", (("item", "b"), ("item", "a")))), ("b", "a"), ("b", "a")),
        ]:
            with at_once():
                self.assertEqual(object_at(space, (), 0), first)
                if last is not None:
                    self.assertEqual(object_at(space, (), size_of(space) - 1), last)


class SeedOfTest(unittest.TestCase):
    def test_document(self):
        self.assertEqual(seed_of(("subset", 3, 1), (), (0,)), 2)

    def test_interface(self):
        self.assertEqual(seed_of(space=("subset", 3, 1), observations=(), obj=(0,)), 2)
        self.assertEqual(seed_of.__module__, "undrawn.enumeration")

    def test_all_objects(self):
        for space in all_small():
            objects, _, _ = listed(space)
            if len(objects) <= 300:
                self.assertEqual(sorted(seed_of(space, (), obj) for obj in objects), list(range(len(objects))), space)

    def test_inverse_of_object_at(self):
        for space in all_small():
            for observations in mixtures(space, 8, "inverse"):
                bound = len(matching(space, observations))
                for seed in range(0, bound, 1 + bound // 5):
                    obj = object_at(space, observations, seed)
                    self.assertEqual(seed_of(space, observations, obj), seed)
                    self.assertTrue(unchanged(seed_of, space, observations, obj))

    def test_limits(self):
        for space in COMPLETED:
            size = size_of(space)
            queries = queries_of(space)
            with at_once():
                for seed in (0, size - 1, size * 3 // 7):
                    sampler = Sampler(space, seed)
                    obj = sampler.complete()
                    self.assertTrue(is_object(space, obj), space[0])
                    self.assertEqual(seed_of(space, (), obj), seed)
            with at_once():
                for query in queries[:: 1 + len(queries) // 25]:
                    sampler.ask(query)
                obj = sampler.complete()
                self.assertEqual(object_at(space, sampler.history(), sampler.seed_now()), obj)
                self.assertEqual(seed_of(space, sampler.history(), obj), sampler.seed_now())

    def test_objects_made_by_hand(self):
        names = tuple(name_of(number) for number in range(400))
        for space, obj in [
            (LEAVES["parallel"], names[::7] + tuple(name for k, name in enumerate(names) if k % 7)),
            (LEAVES["tree"], (None,) + tuple(range(399))),
            (LEAVES["cycle"], tuple((k + 7) % 400 for k in range(400))),
            (LEAVES["permutation"], tuple(range(1, 60)) + (0,)),
            (LEAVES["walk"], (0, 1, 2, 1) * 15 + (0,)),
            (LEAVES["word"], tuple("f" * 66 + "e" * 66 + "d" * 67 + "c" * 67 + "b" * 67 + "a" * 67)),
        ]:
            with at_once():
                self.assertTrue(is_object(space, obj))
                self.assertEqual(object_at(space, (), seed_of(space, (), obj)), obj)


if __name__ == "__main__":
    unittest.main()
