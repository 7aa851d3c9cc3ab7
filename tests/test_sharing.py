"""Samplers that users share, and strategies that take turns."""

import unittest
from random import Random

from tests.brute_answers import queries_of
from tests.brute_counts import counted, listed, matching
from tests.brute_sampler import BruteSampler
from tests.brute_strategies import brute_together, path_of, strategies_for
from tests.changes import ODDITIES, changed, unchanged
from tests.large import LEAVES, NESTED, at_once
from tests.samples import NONE, ONE, all_small
from tests.test_sampler import raised, view
from undrawn.counting import count_matching, probability
from undrawn.errors import InvalidQuery, InvalidSeed, InvalidSpace, InvalidUsers, NoMatch, UnknownUser
from undrawn.samplers import Sampler
from undrawn.sharing import SharedSampler, run_together
from undrawn.spaces import size_of
from undrawn.strategies import run_strategy

SUBSET = ("subset", 3, 1)
USERS = ("ann", "bob")
FIRST, SECOND = ((), "contains", 0), ((), "contains", 1)
YES, NO = ((), (True,)), ((), (False,))
NO_USERS = ["ann", ["ann"], (), ("bob", "ann"), ("ann", "ann"), ("ann", "bob", "bob"), ("Ann",), ("ann", 1), ("",), ("a b",)]
NO_USERS += [("annabel",), (None,), (True,), ("ann", "bob", None), tuple("abcdefg"), (("ann", "bob"),), {"ann": "bob"}, ("ann\n",)]


def shared_view(shared, users):
    return view(shared.sampler()), [(shared.seen(user), shared.bound_for(user)) for user in users]


class SharedSamplerTest(unittest.TestCase):
    def test_document(self):
        shared = SharedSampler(SUBSET, 1, USERS)
        self.assertEqual((shared.ask("ann", FIRST), shared.ask("bob", SECOND)), (NO, YES))
        self.assertEqual((shared.bound_for("ann"), shared.chance("ann", SECOND, YES)), (2, (1, 2)))
        self.assertEqual(raised(SharedSampler, SUBSET, 1, ("bob", "ann")), (InvalidUsers, {"value": ("bob", "ann")}))

    def test_interface(self):
        shared = SharedSampler(space=SUBSET, seed=1, users=USERS)
        self.assertEqual(shared.ask(user="ann", query=FIRST), NO)
        self.assertEqual((shared.seen(user="ann"), shared.bound_for(user="ann")), (((FIRST, NO),), 2))
        self.assertEqual(shared.chance(user="bob", query=SECOND, answer=YES), (1, 3))
        methods = "ask seen bound_for chance sampler __init__".split()
        self.assertEqual([name for name in methods if name not in vars(SharedSampler)], [])
        self.assertEqual({SharedSampler.__module__, run_together.__module__}, {"undrawn.sharing"})

    def test_users(self):
        for users in [("a",), ("ann", "bob"), tuple("abcdef"), ("a", "aa", "ab", "zzzzzz")]:
            shared = SharedSampler(SUBSET, 0, users)
            for user in users:
                self.assertEqual((shared.seen(user), shared.bound_for(user)), ((), 3))
        for value in NO_USERS + ODDITIES:
            self.assertEqual(raised(SharedSampler, SUBSET, 1, value), (InvalidUsers, {"value": value}))
            self.assertTrue(unchanged(lambda users: raised(SharedSampler, SUBSET, 1, users), value))

    def test_errors_of_the_sampler_come_first(self):
        for users in (USERS, None, (), ["ann"]):
            for value in ODDITIES + [("subset", 1, 2)]:
                self.assertEqual(raised(SharedSampler, value, None, users), (InvalidSpace, {"value": value}))
            self.assertEqual(raised(SharedSampler, NONE, None, users), (NoMatch, {"observations": ()}))
            for seed in (3, -1, None, True, "1", 10**4000):
                self.assertEqual(raised(SharedSampler, SUBSET, seed, users), (InvalidSeed, {"bound": 3}))
            for space in (ONE, ("power", 0, NONE)):
                self.assertEqual(raised(SharedSampler, space, 1, users), (InvalidSeed, {"bound": 1}))

    def test_unknown_users(self):
        shared = SharedSampler(SUBSET, 1, USERS)
        shared.ask("ann", FIRST)
        before = shared_view(shared, USERS)
        for user in ODDITIES + ["annn", "an", "Ann", ["ann"], ("ann",), USERS, 0, "carl", "ann "]:
            wanted = (UnknownUser, {"name": user})
            for query in (FIRST, None, "ann"):
                self.assertEqual(raised(shared.ask, user, query), wanted)
                self.assertEqual(raised(shared.chance, user, query, NO), wanted)
            self.assertEqual(raised(shared.seen, user), wanted)
            self.assertEqual(raised(shared.bound_for, user), wanted)
            self.assertEqual(shared_view(shared, USERS), before)

    def test_wrong_queries(self):
        shared = SharedSampler(SUBSET, 1, USERS)
        shared.ask("ann", FIRST)
        before = shared_view(shared, USERS)
        known = {repr(query) for query in queries_of(SUBSET)}
        for query in ODDITIES + [query for query in changed(FIRST) if repr(query) not in known]:
            self.assertEqual(raised(shared.ask, "bob", query), (InvalidQuery, {"value": query}))
            self.assertEqual(shared_view(shared, USERS), before)

    def test_small_spaces(self):
        for space in all_small():
            objects, queries, _ = listed(space)
            random = Random(f"shared {space}")
            for users in (("a",), ("ann", "bob"), tuple("uvwxyz")) if objects and queries else ():
                seed = random.randrange(len(objects))
                shared, brute, seen = SharedSampler(space, seed, users), BruteSampler(space, seed), {user: () for user in users}
                for _ in range(8):
                    user, query = random.choice(users), random.choice(queries)
                    answer = brute.ask(query)
                    self.assertEqual(repr(shared.ask(user, query)), repr(answer))
                    seen[user] += ((query, answer),)
                    other, query = random.choice(users), random.choice(queries)
                    self.assertEqual(repr(shared.seen(other)), repr(seen[other]))
                    self.assertEqual(shared.bound_for(other), len(matching(space, seen[other])))
                    for given, _ in counted(space, (), query)[:3]:
                        self.assertEqual(shared.chance(other, query, given), probability(space, seen[other], query, given))
                self.assertEqual(view(shared.sampler())[:4], (space, brute.observations, brute.seed, brute.bound()))

    def test_chance_of_any_answer(self):
        shared = SharedSampler(SUBSET, 1, USERS)
        shared.ask("ann", FIRST)
        for answer in ODDITIES + [((), (0,)), ((), (1,)), ((), [True]), (True,), [(), (True,)]]:
            self.assertEqual(shared.chance("ann", SECOND, answer), (0, 1))
        self.assertEqual([shared.chance("ann", FIRST, answer) for answer in (YES, NO)], [(0, 1), (1, 1)])
        self.assertEqual([shared.chance("bob", FIRST, answer) for answer in (YES, NO)], [(1, 3), (2, 3)])

    def test_nobody_sees_the_answers_of_others(self):
        shared = SharedSampler(SUBSET, 1, USERS)
        for query in (FIRST, SECOND, ((), "select", 0)):
            shared.ask("ann", query)
        self.assertEqual((shared.seen("bob"), shared.bound_for("bob"), shared.bound_for("ann")), ((), 3, 1))
        self.assertEqual(shared.chance("bob", SECOND, YES), (1, 3))

    def test_sampler(self):
        shared = SharedSampler(SUBSET, 1, USERS)
        self.assertEqual(view(shared.sampler()), view(Sampler(SUBSET, 1)))
        shared.ask("bob", FIRST)
        shared.ask("ann", SECOND)
        shared.ask("bob", FIRST)
        copied = shared.sampler()
        self.assertEqual(copied.log(), (("ask", FIRST), ("ask", SECOND), ("ask", FIRST)))
        self.assertEqual(copied.history(), ((FIRST, NO), (SECOND, YES), (FIRST, NO)))
        before = shared_view(shared, USERS)
        copied.retract(1)
        copied.ask(((), "rank", 2))
        self.assertEqual(shared_view(shared, USERS), before)
        copied.rewind(0)
        self.assertEqual(view(copied), view(Sampler(SUBSET, 1)))
        kept = view(shared.sampler())
        other = shared.sampler()
        shared.ask("ann", ((), "select", 0))
        self.assertEqual((view(other), len(shared.sampler().log())), (kept, 4))

    def test_samplers_share_nothing(self):
        one, two = SharedSampler(SUBSET, 1, USERS), SharedSampler(SUBSET, 1, USERS)
        one.ask("ann", FIRST)
        self.assertEqual((two.seen("ann"), two.bound_for("ann"), two.sampler().log()), ((), 3, ()))

    def test_what_each_user_sees(self):
        # Each user follows a strategy of its own, so as many seeds lead to what it sees as objects match it.
        for space in all_small():
            size = len(listed(space)[0])
            plans = strategies_for(space, 3, 3)
            for turns in ((0, 1, 2, 0, 1, 2, 1), (2, 2, 1, 0, 0, 1)) if size <= 60 and len(plans) == 3 else ():
                tables = ({}, {}, {})
                for seed in range(size):
                    for table, seen in zip(tables, run_together(space, tuple(plans), turns, seed)):
                        table[seen] = table.get(seen, 0) + 1
                for table in tables:
                    self.assertEqual(table, {seen: len(matching(space, seen)) for seen in table})

    def test_limits(self):
        users = tuple("abcdef")
        for name in ("word", "parallel", "walk", "string", "tree", "permutation"):
            space = LEAVES[name]
            queries = queries_of(space)
            with at_once():
                shared = SharedSampler(space, size_of(space) // 5, users)
                for k in range(100):
                    shared.ask(users[k * k % 6], queries[k * 101 % len(queries)])
                copied = shared.sampler()
                self.assertEqual(len(copied), 100)
                self.assertEqual(sum(len(shared.seen(user)) for user in users), 100)
                for user in users:
                    seen = shared.seen(user)
                    self.assertEqual(shared.bound_for(user), count_matching(space, seen))
                    if seen:
                        self.assertEqual(shared.chance(user, *seen[0]), (1, 1))


class RunTogetherTest(unittest.TestCase):
    def test_document(self):
        plan = (FIRST, (), None)
        self.assertEqual(run_together(SUBSET, (plan, None), (1, 0, 0), 1), (((FIRST, NO),), ()))

    def test_interface(self):
        self.assertEqual(run_together(space=SUBSET, strategies=(None,), turns=(), seed=0), ((),))

    def test_no_turns_and_stopped_strategies(self):
        plan = (FIRST, (), None)
        self.assertEqual(run_together(SUBSET, (plan, plan), (), 2), ((), ()))
        self.assertEqual(run_together(SUBSET, (None,) * 6, (0, 5, 5, 3), 2), ((),) * 6)
        self.assertEqual(run_together(SUBSET, (plan,), (0,) * 100, 2), (((FIRST, YES),),))

    def test_each_follows_its_own_answers(self):
        ask_select = (((), "select", 0), (), None)
        plan = (FIRST, ((NO, (SECOND, (), None)),), ask_select)
        found = run_together(SUBSET, (ask_select, plan), (0, 1, 1, 1), 2)
        self.assertEqual(found, (((((), "select", 0), ((), (2,))),), ((FIRST, NO), (SECOND, NO))))

    def test_small_spaces(self):
        for space in all_small():
            size = len(listed(space)[0])
            plans = strategies_for(space, 6, 4)
            random = Random(f"turns {space}")
            for many in (1, 2, 3, 6) if len(plans) == 6 else ():
                for _ in range(3 if size else 0):
                    strategies = tuple(random.choice(plans) for _ in range(many))
                    turns = tuple(random.randrange(many) for _ in range(random.randint(0, 12)))
                    seed = random.randrange(size)
                    wanted = brute_together(space, strategies, turns, seed)
                    self.assertEqual(repr(run_together(space, strategies, turns, seed)), repr(wanted))
                    self.assertTrue(unchanged(run_together, space, strategies, turns, seed))

    def test_one_strategy(self):
        for space in all_small():
            size = len(listed(space)[0])
            for strategy in strategies_for(space, 3, 3):
                for seed in {0, size // 2, size - 1} if size else ():
                    self.assertEqual(run_together(space, (strategy,), (0,) * 5, seed), (run_strategy(space, strategy, seed),))

    def test_limits(self):
        for space in list(LEAVES.values()) + list(NESTED.values()):
            queries = queries_of(space)
            plans = tuple(path_of([queries[(k * 37 + j * 11) % len(queries)] for j in range(30)]) for k in range(6))
            turns = tuple(k * 5 % 6 for k in range(100))
            with at_once():
                found = run_together(space, plans, turns, size_of(space) // 9)
                self.assertEqual([len(seen) for seen in found], [turns.count(k) for k in range(6)])


if __name__ == "__main__":
    unittest.main()
