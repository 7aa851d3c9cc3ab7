"""Which values are strategies, and what strategies see."""

import unittest

from tests.brute_answers import queries_of
from tests.brute_counts import listed, matching
from tests.brute_strategies import answers_in, brute_run, is_brute_strategy, observed, path_of, strategies_for
from tests.changes import ODDITIES, changed, nested_value, unchanged
from tests.large import LEAVES, NESTED, at_once
from tests.samples import NONE, ONE, all_small
from undrawn.answers import answer_to
from undrawn.counting import answer_counts
from undrawn.enumeration import object_at
from undrawn.samplers import Sampler
from undrawn.spaces import size_of
from undrawn.strategies import is_strategy, run_strategy, seed_range, seed_range_for

SUBSET = ("subset", 3, 1)
CONTAINS = ((), "contains", 0)
YES, NO = ((), (True,)), ((), (False,))
PLAN = (CONTAINS, ((YES, None),), (((), "contains", 1), (), None))


class IsStrategyTest(unittest.TestCase):
    def check(self, space, valid, invalid):
        for value in valid:
            self.assertIs(is_strategy(space, value), True, (space, value))
        for value in invalid:
            self.assertIs(is_strategy(space, value), False, (space, value))

    def test_document(self):
        self.check(("cycle", 3), [(((), "successor", 0), (), None)], [])

    def test_interface(self):
        self.assertIs(is_strategy(space=SUBSET, value=PLAN), True)
        for function in (is_strategy, run_strategy, seed_range, seed_range_for):
            self.assertEqual(function.__module__, "undrawn.strategies")

    def test_ordinary(self):
        self.check(SUBSET, [None, PLAN, (CONTAINS, (), PLAN), (CONTAINS, ((NO, PLAN), (YES, PLAN)), PLAN)], [])
        wrong = [(), (None,), (CONTAINS,), (CONTAINS, ()), (CONTAINS, (), None, None), [CONTAINS, (), None], CONTAINS]
        wrong += [(CONTAINS, [], None), (CONTAINS, None, None), (CONTAINS, ((YES, None, None),), None), (None, (), None)]
        wrong += [(CONTAINS, ([YES, None],), None), (CONTAINS, (YES, None), None), (CONTAINS, ((YES,),), None)]
        self.check(SUBSET, [], wrong + [(CONTAINS, ((YES, ()),), None), (CONTAINS, (), ()), (CONTAINS, (), False)])

    def test_branches_ascend(self):
        rank = ((), "rank", 2)
        low, high = ((), (0,)), ((), (1,))
        valid = [(rank, ((low, None), (high, None)), None), (CONTAINS, ((NO, None), (YES, None)), None)]
        wrong = [(rank, ((high, None), (low, None)), None), (CONTAINS, ((YES, None), (NO, None)), None)]
        self.check(SUBSET, valid, wrong + [(rank, ((low, None), (low, None)), None), (rank, ((low, None), (high, None), (low, None)), None)])

    def test_answers_of_no_object(self):
        for answer in [((), (2,)), ((), (-1,)), ((), (True,)), ((), ("0",)), ((), ()), ((0,), ()), (), None, 0, ((), [0]), [(), (0,)]]:
            self.check(SUBSET, [], [(((), "select", 0), ((((), (0,)), None), (answer, None), (((), (3,)), None)), None)])
        select = ((), "select", 1)
        self.check(("subset", 5, 2), [(select, ((((), (1,)), None),), None)], [(select, ((((), (0,)), None),), None)])

    def test_wrong_below_a_branch_that_no_answer_reaches(self):
        sure = ("subset", 3, 3)
        self.check(sure, [(CONTAINS, ((YES, None),), None)], [(CONTAINS, ((YES, None),), 0), (CONTAINS, ((NO, None),), None)])
        self.check(sure, [], [(CONTAINS, ((YES, None),), (((), "contains", 3), (), None))])
        # What is impossible on this path only is allowed.
        self.check(SUBSET, [(CONTAINS, ((YES, (CONTAINS, ((NO, None),), None)),), None)], [])

    def test_small_spaces(self):
        for space in all_small():
            strategies = strategies_for(space, 6, 3)
            self.check(space, strategies, [])
            for strategy in strategies_for(space, 2, 2):
                for value in changed(strategy)[::3]:
                    self.assertIs(is_strategy(space, value), is_brute_strategy(space, value), (space, value))

    def test_all_branches(self):
        for space in all_small():
            for query in listed(space)[1][::7]:
                answers = answers_in(space, query)
                valid = (query, tuple((answer, (query, (), None)) for answer in answers), None)
                self.check(space, [valid], [(query, valid[1] + (branch,), None) for branch in valid[1][:3]])

    def test_any_value(self):
        for space in (SUBSET, NONE, ("choice", (ONE, SUBSET))):
            query = queries_of(space)[0]
            for value in ODDITIES:
                self.assertIs(is_strategy(space, value), value is None)
                for part in [(value, (), None), (query, (), value), (query, value, None), (query, ((value, None),), None)]:
                    self.assertIs(is_strategy(space, part), is_brute_strategy(space, part), (space, part))
                    self.assertTrue(unchanged(is_strategy, space, part))
            for depth in (2, 39, 40):
                self.check(space, [], [nested_value(depth)])

    def test_spaces_without_objects(self):
        for space in (NONE, ("product", (("cycle", 3), NONE)), ("choice", (NONE, NONE)), ("walk", 3, 0, 0, 0, 1)):
            for query in queries_of(space):
                valid = [None, (query, (), None), (query, (), (query, (), None))]
                self.check(space, valid, [(query, ((answer, None),), None) for answer in (((), (0,)), ((0,), ()), YES)])

    def test_selections(self):
        space = ("choice", (("cycle", 3), NONE, SUBSET))
        query = ((0,), "successor", 0)
        answers = (((0,), (1,)), ((0,), (2,)), ((2,), ()))
        valid = (query, tuple((answer, None) for answer in answers), None)
        self.check(space, [valid], [(query, ((((1,), ()), None),), None), (query, ((((0,), ()), None),), None)])
        for k in range(2):
            swapped = valid[1][:k] + (valid[1][k + 1], valid[1][k]) + valid[1][k + 2:]
            self.check(space, [], [(query, swapped, None)])

    def test_thirty_on_one_path_and_two_hundred(self):
        for name, space in LEAVES.items():
            queries = (queries_of(space) * 30)[:30]
            obj = object_at(space, (), size_of(space) // 3)
            answers = [answer_to(space, obj, query) for query in queries]
            with at_once():
                self.check(space, [path_of(queries), path_of(queries, answers)], [path_of(queries, answers, 0)])
        space = LEAVES["tree"]
        many = [((), "parent", v) for v in range(1, 200)]
        branches = tuple((((), (k,)), (many[k], (), None)) for k in range(199))
        with at_once():
            self.check(space, [(((), "parent", 399), branches, None)], [(((), "parent", 399), branches + (branches[0],), None)])

    def test_limits(self):
        with at_once():
            for space in list(LEAVES.values()) + list(NESTED.values()):
                queries = queries_of(space)
                obj = Sampler(space, 0).complete() if len(queries) < 900 else None
                for query in queries[:: 1 + len(queries) // 12]:
                    self.check(space, [(query, (), None)], [(query, ((((9,), (9, 9)), None),), None)])
                    if obj is not None:
                        self.check(space, [(query, ((answer_to(space, obj, query), None),), None)], [])

    def test_many_branches(self):
        space = LEAVES["walk"]
        query = ((), "first_visit", 30, 4)
        known = tuple((answer, None) for answer, _ in answer_counts(space, (), query, limit=10**6))
        self.assertGreater(len(known), 150)
        with at_once():
            self.check(space, [(query, known, None)], [(query, known[::-1], None)])


class RunStrategyTest(unittest.TestCase):
    def test_document(self):
        wanted = ((((), "contains", 0), ((), (False,))), (((), "contains", 1), ((), (True,))))
        self.assertEqual(run_strategy(SUBSET, PLAN, 1), wanted)

    def test_interface(self):
        self.assertEqual(run_strategy(space=SUBSET, strategy=PLAN, seed=2), ((CONTAINS, YES),))

    def test_no_queries(self):
        for space in all_small():
            for seed in {0, len(listed(space)[0]) - 1} if listed(space)[0] else ():
                self.assertEqual(run_strategy(space, None, seed), ())

    def test_small_spaces(self):
        for space in all_small():
            size = len(listed(space)[0])
            for strategy in strategies_for(space, 5, 4):
                for seed in {*range(0, size, 1 + size // 20), size - 1} if size else ():
                    self.assertEqual(repr(run_strategy(space, strategy, seed)), repr(brute_run(space, strategy, seed)))
                    self.assertTrue(unchanged(run_strategy, space, strategy, seed))

    def test_each_seed_of_one_range(self):
        for space in all_small():
            size = len(listed(space)[0])
            for strategy in strategies_for(space, 3, 3) if size <= 130 else ():
                table = {}
                for seed in range(size):
                    table.setdefault(run_strategy(space, strategy, seed), []).append(seed)
                for seen, seeds in table.items():
                    self.assertEqual(seeds, list(range(seeds[0], seeds[0] + len(matching(space, seen)))))
                    self.assertEqual(seed_range(space, seen), (seeds[0], len(seeds)))

    def test_until_everything_is_known(self):
        for space in all_small():
            size = len(listed(space)[0])
            if size <= 130:
                strategy = path_of(listed(space)[1])
                found = [k for seed in range(size) for k in matching(space, run_strategy(space, strategy, seed))]
                self.assertEqual(sorted(found), list(range(size)), space)

    def test_limits(self):
        for space in list(LEAVES.values()) + list(NESTED.values()):
            queries = queries_of(space)
            path = path_of(queries[:: 1 + len(queries) // 30])
            size = size_of(space)
            with at_once():
                for seed in (0, size // 3, size - 1):
                    sampler = Sampler(space, seed)
                    seen = run_strategy(space, path, seed)
                    self.assertEqual(seen, tuple((query, sampler.ask(query)) for query, _ in seen))
                    self.assertEqual(seed_range(space, seen), (seed - sampler.seed_now(), sampler.bound_now()))


class SeedRangeForTest(unittest.TestCase):
    def test_document(self):
        self.assertEqual(seed_range_for(SUBSET, PLAN, (2,)), (0, 1))

    def test_interface(self):
        self.assertEqual(seed_range_for(space=SUBSET, strategy=PLAN, obj=(0,)), (2, 1))

    def test_no_queries(self):
        for space in all_small():
            for obj in listed(space)[0][:2]:
                self.assertEqual(seed_range_for(space, None, obj), (0, len(listed(space)[0])))

    def test_small_spaces(self):
        for space in all_small():
            objects, _, _ = listed(space)
            for strategy in strategies_for(space, 4, 4) if len(objects) <= 130 else ():
                ranges = {}
                for obj in objects:
                    ranges[observed(space, strategy, obj)] = seed_range_for(space, strategy, obj)
                for seed in range(len(objects)):
                    first, length = ranges[run_strategy(space, strategy, seed)]
                    self.assertTrue(first <= seed < first + length)
                self.assertEqual(sum(length for _, length in ranges.values()), len(objects))
                self.assertTrue(all(unchanged(seed_range_for, space, strategy, obj) for obj in objects[:3]))

    def test_limits(self):
        for space in list(LEAVES.values()) + [NESTED["deepest"], NESTED["choices"]]:
            queries = queries_of(space)
            obj = object_at(space, (), size_of(space) // 7)
            picked = queries[:: 1 + len(queries) // 30]
            answers = [answer_to(space, obj, query) for query in picked]
            with at_once():
                wanted = seed_range(space, tuple(zip(picked, answers)))
                self.assertEqual(seed_range_for(space, path_of(picked), obj), wanted)
                self.assertEqual(seed_range_for(space, path_of(picked, answers), obj), wanted)
                self.assertEqual(run_strategy(space, path_of(picked), sum(wanted) - 1), tuple(zip(picked, answers)))


if __name__ == "__main__":
    unittest.main()
