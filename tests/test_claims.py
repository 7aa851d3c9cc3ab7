"""Claims that hold, and claims that do not."""

import unittest
from random import Random

from tests.brute_answers import answer_of, queries_of
from tests.brute_claims import brute_holds
from tests.brute_counts import counted, listed, matching, mixtures
from tests.changes import ODDITIES, changed, unchanged
from tests.large import LEAVES, NESTED, at_once
from tests.samples import NONE, ONE, all_small, just_below
from undrawn.claims import claim_holds
from undrawn.counting import probability
from undrawn.enumeration import object_at, seed_of
from undrawn.spaces import size_of
from undrawn.strategies import seed_range

SUBSET = ("subset", 4, 2)
QUERY = ((), "contains", 0)
YES, NO = ((), (True,)), ((), (False,))
SEEN = ((QUERY, YES),)

TRUE = [
    ("count", ("cycle", 4), (), 6),
    ("count", SUBSET, SEEN, 3),
    ("probability", SUBSET, (), QUERY, YES, 1, 2),
    ("probability", SUBSET, SEEN, QUERY, YES, 1, 1),
    ("probability", SUBSET, SEEN, QUERY, NO, 0, 1),
    ("range", SUBSET, (), 0, 6),
    ("range", SUBSET, SEEN, 3, 3),
    ("member", SUBSET, SEEN, (0, 2)),
    ("member", SUBSET, (), (1, 2)),
    ("seed", SUBSET, SEEN, (0, 3), 0),
    ("seed", SUBSET, (), (2, 3), 0),
    ("seed", ("tree", 2), (), (None, 0), 0),
]


def claims_about(space, observations, random):
    """A claim of each sort, which holds; some sorts need a matching object or a query."""
    found = matching(space, observations)
    claims = [("count", space, observations, len(found)), ("range", space, observations) + seed_range(space, observations)]
    objects, queries, answers = listed(space)
    if found:
        obj = objects[random.choice(found)]
        claims += [("member", space, observations, obj), ("seed", space, observations, obj, seed_of(space, observations, obj))]
    if found and queries:
        query = random.choice(queries)
        answer = random.choice(answers[query])
        claims.append(("probability", space, observations, query, answer) + probability(space, observations, query, answer))
    return claims


class ClaimTest(unittest.TestCase):
    def check(self, true, false):
        for claim in true:
            self.assertIs(claim_holds(claim), True, claim)
        for claim in false:
            self.assertIs(claim_holds(claim), False, claim)

    def test_document(self):
        self.check([("count", ("cycle", 4), (), 6)], [])

    def test_interface(self):
        self.assertIs(claim_holds(value=TRUE[0]), True)
        self.assertEqual(claim_holds.__module__, "undrawn.claims")

    def test_true(self):
        self.check(TRUE, [])
        for claim in TRUE:
            self.assertTrue(brute_holds(claim))
            self.assertTrue(unchanged(claim_holds, claim))

    def test_one_thing_changed(self):
        for claim in TRUE:
            for other in changed(claim):
                self.assertIs(claim_holds(other), brute_holds(other), other)

    def test_any_value_in_each_place(self):
        for claim in TRUE:
            for at in range(len(claim)):
                for value in ODDITIES:
                    other = claim[:at] + (value,) + claim[at + 1:]
                    self.assertIs(claim_holds(other), brute_holds(other), other)
            self.check([], [list(claim), claim + (0,), claim[:-1], claim[1:], (claim,), {claim[0]: claim}])

    def test_any_value(self):
        self.check([], ODDITIES + [("count",), ("range",), ("member", SUBSET), ("seed", SUBSET, ()), ("counts", SUBSET, (), 6)])
        self.check([], [(kind, SUBSET, ()) for kind in ("count", "probability", "range", "member", "seed")])
        self.check([], [("probability", SUBSET, (), QUERY, YES, 1, 2)[:length] for length in range(7)])
        self.check([], [("Count", SUBSET, (), 6), (["count"], SUBSET, (), 6), (None, SUBSET, (), 6), ({}, SUBSET, (), 6)])
        for value in ODDITIES:
            self.assertTrue(unchanged(claim_holds, value))

    def test_true_is_not_one(self):
        seen = (QUERY, YES), (((), "select", 1), ((), (1,)))
        true = [("count", SUBSET, seen, 1), ("range", SUBSET, seen, 3, 1)]
        self.check(true, [claim[:-1] + (True,) for claim in true])
        self.check([("probability", SUBSET, seen, QUERY, YES, 1, 1)], [("probability", SUBSET, seen, QUERY, YES, True, 1)])
        self.check([], [("probability", SUBSET, seen, QUERY, YES, 1, True), ("probability", SUBSET, seen, QUERY, NO, False, 1)])
        self.check([("seed", SUBSET, seen, (0, 1), 0), ("seed", SUBSET, (), (1, 3), 1)], [("seed", SUBSET, seen, (0, 1), False)])
        self.check([("count", SUBSET, ((QUERY, YES),), 3)], [("count", SUBSET, ((QUERY, ((), (1,))),), 3), ("count", SUBSET, (SEEN,), 3)])
        self.check([], [("seed", SUBSET, (), (1, 3), True), ("member", SUBSET, (), (True, 3)), ("member", SUBSET, (), (False, 3))])
        self.check([], [("range", SUBSET, (), False, 6), ("count", ("subset", 4, True), (), 4), ("count", ("subset", True, 1), (), 1)])

    def test_lists_for_tuples(self):
        self.check([], [("count", list(SUBSET), (), 6), ("count", SUBSET, [], 6), ("count", SUBSET, [(QUERY, YES)], 3)])
        self.check([], [("count", SUBSET, ([QUERY, YES],), 3), ("member", SUBSET, (), [0, 2]), ("seed", SUBSET, (), [2, 3], 0)])
        self.check([], [("probability", SUBSET, (), list(QUERY), YES, 1, 2), ("probability", SUBSET, (), QUERY, list(YES), 1, 2)])

    def test_the_answer_of_a_probability_may_be_anything(self):
        for answer in ODDITIES + [((), (1,)), ((), [True]), [(), (True,)], YES + ((),), ((0,), ())]:
            self.check([("probability", SUBSET, (), QUERY, answer, 0, 1)], [("probability", SUBSET, (), QUERY, answer, 1, 2)])
            self.check([("probability", SUBSET, SEEN, QUERY, answer, 0, 1)], [("probability", SUBSET, SEEN, QUERY, answer, 0, 2)])

    def test_lowest_terms(self):
        fractions = [(2, 4), (-1, -2), (1, -2), (1, 3), (0, 1), (2, 1), ("1", "2"), (None, None)]
        self.check([], [("probability", SUBSET, (), QUERY, YES) + pair for pair in fractions])
        self.check([], [("probability", SUBSET, SEEN, QUERY, NO, 0, 2), ("probability", SUBSET, SEEN, QUERY, NO, 0, -1)])

    def test_no_matching_object(self):
        contrary = ((QUERY, YES), (QUERY, NO))
        self.check([("count", SUBSET, contrary, 0), ("range", SUBSET, contrary, 0, 0)], [("count", SUBSET, contrary, False)])
        wrong = [("probability", SUBSET, contrary, QUERY, answer, n, d) for answer in (YES, NO, None) for n, d in ((0, 1), (1, 1), (0, 0))]
        self.check([], wrong + [("member", SUBSET, contrary, (0, 1)), ("seed", SUBSET, contrary, (0, 1), 0)])

    def test_no_objects_at_all(self):
        query = ((), "image", 0)
        self.check([("count", NONE, (), 0), ("range", NONE, (), 0, 0)], [("probability", NONE, (), query, ((), (0,)), 0, 1)])
        self.check([], [("member", NONE, (), (0,)), ("seed", NONE, (), (0,), 0), ("count", NONE, ((query, ((), (0,))),), 0)])

    def test_queries_that_the_space_has_not(self):
        for query in [((), "contains", 4), ((), "letter", 0), ((0,), "contains", 0), ((), "contains"), None, [], "contains", ((), "contains", False)]:
            self.check([], [("probability", SUBSET, (), query, YES, 1, 2), ("probability", SUBSET, (), query, None, 0, 1)])
            self.check([], [("count", SUBSET, ((query, YES),), 3), ("range", SUBSET, ((query, YES),), 3, 3)])

    def test_one_object(self):
        self.check([("count", ONE, (), 1), ("range", ONE, (), 0, 1), ("member", ONE, (), (0,)), ("seed", ONE, (), (0,), 0)], [])

    def test_small_spaces(self):
        for space in all_small():
            random = Random(f"claims {space}")
            for observations in mixtures(space, 6, "claims") if len(listed(space)[0]) <= 130 else ():
                for claim in claims_about(space, observations, random):
                    self.check([claim], [claim[:-1] + (None,), claim + (None,), claim[:1] + (None,) + claim[2:]])
                    if isinstance(claim[-1], int):
                        self.check([], [claim[:-1] + (claim[-1] + 1,), claim[:-1] + (claim[-1] - 1,), claim[:-1] + (str(claim[-1]),)])

    def test_members_and_seeds(self):
        for space in all_small():
            objects, _, _ = listed(space)
            for observations in mixtures(space, 3, "members") if len(objects) <= 60 else ():
                found = matching(space, observations)
                for k, obj in enumerate(objects):
                    self.assertIs(claim_holds(("member", space, observations, obj)), k in found)
                    if k not in found:
                        self.check([], [("seed", space, observations, obj, 0)])
                for seed in range(len(found)):
                    obj = object_at(space, observations, seed)
                    self.check([("seed", space, observations, obj, seed)], [("seed", space, observations, obj, seed + 1)])

    def test_probabilities_add_up(self):
        for space in all_small():
            for observations in mixtures(space, 3, "adding") if listed(space)[1] else ():
                query = listed(space)[1][-1]
                for answer, _ in counted(space, observations, query)[:5]:
                    pair = probability(space, observations, query, answer)
                    self.check([("probability", space, observations, query, answer) + pair], [])

    def test_limits(self):
        for name, space in list(LEAVES.items()) + [("deepest", NESTED["deepest"]), ("choices", NESTED["choices"])]:
            queries = queries_of(space)
            obj = object_at(space, (), size_of(space) // 3)
            seen = tuple((query, answer_of(space, obj, query)) for query in queries[:: 1 + len(queries) // 25])
            with at_once():
                first, length = seed_range(space, seen)
                claims = [("count", space, seen, length), ("range", space, seen, first, length), ("member", space, seen, obj)]
                claims.append(("probability", space, seen, *seen[0], 1, 1))
                self.check(claims, [claim[:-1] + (-1,) for claim in claims])
                self.check([("seed", space, (), obj, size_of(space) // 3)], [("seed", space, seen, obj, size_of(space))])

    def test_the_largest_space(self):
        with at_once():
            size = 10**4000 - 1
            self.check([("count", just_below(), (), size), ("range", just_below(), (), 0, size)], [("count", just_below(), (), size - 1)])


if __name__ == "__main__":
    unittest.main()
