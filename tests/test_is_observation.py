"""Which values are observations of a space."""

import unittest

from tests.brute_answers import queries_of
from tests.brute_counts import listed
from tests.changes import ODDITIES, changed, unchanged
from tests.large import LEAVES, NESTED, at_once
from tests.samples import NONE, ONE, all_small
from undrawn.observations import is_observation


class IsObservationTest(unittest.TestCase):
    def check(self, space, valid, invalid):
        for value in valid:
            self.assertIs(is_observation(space, value), True, (space, value))
        for value in invalid:
            self.assertIs(is_observation(space, value), False, (space, value))

    def test_document(self):
        self.check(("subset", 5, 2), [(((), "select", 1), ((), (1,)))], [(((), "select", 1), ((), (0,)))])

    def test_interface(self):
        self.assertIs(is_observation(space=ONE, value=(((), "successor", 0), ((), (0,)))), True)
        self.assertEqual(is_observation.__module__, "undrawn.observations")

    def test_small_spaces(self):
        for space in all_small():
            _, queries, answers = listed(space)
            for query in queries[:: 1 + len(queries) // 25]:
                given = sorted(set(answers[query]))
                known = {repr((query, answer)) for answer in given}
                self.check(space, [(query, answer) for answer in given], [])
                for answer in given[:2]:
                    values = [(query, other) for other in changed(answer)] + [(query, answer, answer), [query, answer], (query,)]
                    for value in values + [(answer, query), (list(query), answer), ((query, answer),), query, answer]:
                        self.assertIs(is_observation(space, value), repr(value) in known, (space, value))

    def test_answers_of_other_queries(self):
        for space in all_small():
            _, queries, answers = listed(space)
            for query, other in zip(queries, queries[3:] + queries[:3]):
                known = {repr(answer) for answer in answers[query]}
                for answer in sorted(set(answers[other]))[:3]:
                    self.assertIs(is_observation(space, (query, answer)), repr(answer) in known, (space, query, answer))

    def test_any_value(self):
        for space in (("cycle", 3), ("choice", (ONE, ("subset", 3, 1))), NONE):
            self.check(space, [], ODDITIES + [(value, value) for value in ODDITIES] + [(value, ((), (0,))) for value in ODDITIES])
            for query in queries_of(space):
                known = {repr((query, answer)) for answer in listed(space)[2][query]}
                values = ODDITIES + [((), (value,)) for value in ODDITIES] + [((value,), ()) for value in ODDITIES]
                for value in [(query, answer) for answer in values]:
                    self.assertIs(is_observation(space, value), repr(value) in known, (space, value))
                    self.assertTrue(unchanged(is_observation, space, value))

    def test_queries_of_other_spaces(self):
        self.check(("subset", 5, 2), [], [(((), "select", 2), ((), (1,))), (((0,), "select", 0), ((), (1,))), (((), "letter", 0), ((), (1,)))])

    def test_spaces_without_objects(self):
        for space in (NONE, ("product", (ONE, NONE)), ("power", 2, ("choice", (NONE, NONE)))):
            for query in queries_of(space):
                self.check(space, [], [(query, ((), (0,))), (query, ((0,), (0,))), (query, ((0,), ())), (query, ((), ()))])

    def test_spaces_that_cannot_be_selected(self):
        space = ("choice", (("cycle", 3), NONE, ("product", (ONE, NONE))))
        self.check(space, [(((1,), "image", 0), ((0,), ())), (((2, 0), "successor", 0), ((0,), ()))], [])
        self.check(space, [], [(((1,), "image", 0), ((1,), (0,))), (((1,), "image", 0), ((2,), ())), (((2, 0), "successor", 0), ((2,), (0,)))])
        self.check(space, [(((), "selected"), ((), (0,)))], [(((), "selected"), ((), (1,))), (((), "selected"), ((), (2,)))])

    def test_parts_must_fit_together(self):
        word = ("word", (("a", 2), ("b", 2)))
        valid = [(((), "entry", 2), ((), (((1, 1), "a"),))), (((), "entry", 2), ((), (((2, 0), "b"),)))]
        self.check(word, valid, [(((), "entry", 2), ((), (((2, 0), "a"),))), (((), "entry", 2), ((), (((1, 0), "a"),)))])
        self.check(word, [(((), "select", "a", 1), ((), ((2, (1, 1)),)))], [(((), "select", "a", 1), ((), ((2, (0, 2)),)))])
        walk = ("walk", 4, 0, 0, -2, 2)
        valid = [(((), "first_visit", 1, 2), ((), ((1, (2,)),))), (((), "first_visit", 1, 2), ((), ((-1, ()),)))]
        self.check(walk, valid, [(((), "first_visit", 1, 2), ((), ((-1, (2,)),))), (((), "first_visit", 1, 1), ((), ((1, ()),)))])

    def test_limits(self):
        with at_once():
            for space in list(LEAVES.values()) + list(NESTED.values()):
                self.check(space, [], ODDITIES + [(ODDITIES[-5], ((), (0,)))])
            self.check(LEAVES["word"], [(((), "prefix", 6), ((), ((1, 1, 1, 1, 1, 1),)))], [(((), "prefix", 6), ((), ((1, 1, 1, 1, 1, 2),)))])
            self.check(LEAVES["tree"], [(((), "parent", 399), ((), (398,)))], [(((), "parent", 399), ((), (399,)))])
            path = (1, 1, 2, ("a", 1), 0)
            valid = [((path, "select", 3), ((1, 0), (7,))), ((path, "select", 3), ((1, 2), ())), ((path, "select", 3), ((2,), ()))]
            invalid = [((path, "select", 3), ((1, 0), (2,))), ((path, "select", 3), ((1, 1), ())), ((path, "select", 3), ((1,), ()))]
            self.check(NESTED["deepest"], valid, invalid + [((path, "select", 3), ((2, 0), ())), ((path, "select", 3), ((0,), ()))])
            self.check(NESTED["below"], [(((0,), "selected"), ((), (1,)))], [(((0,), "selected"), ((), (2,)))])


if __name__ == "__main__":
    unittest.main()
