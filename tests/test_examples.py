"""The examples of the document: each a session, whose last line has the result or the error."""

import ast
import unittest

EXAMPLES = """
>>> from undrawn.spaces import is_space
>>> is_space(("subset", 2, 3))
False

>>> from undrawn.spaces import size_of
>>> order = ("series", (("item", "a"), ("parallel", (("item", "b"), ("item", "c")))))
>>> size_of(("arrangement", order))
2

>>> from undrawn.spaces import size_of
>>> size_of(("decorated", (("a", 2), ("b", 1)), (("cycle", 3), ("matching", 1))))
12

>>> from undrawn.spaces import size_of
>>> size_of(("permutation", 1, (0,)))
0

>>> from undrawn.objects import is_object
>>> is_object(("subset", 5, 2), (3, 1))
False

>>> from undrawn.queries import is_query
>>> is_query(("subset", 5, 2), ((), "select", 2))
False

>>> from undrawn.answers import answer_to
>>> answer_to(("word", (("a", 3), ("b", 2))), ("a", "b", "a", "b", "a"), ((), "select", "a", 1))
((), ((2, (1, 1)),))

>>> from undrawn.answers import answer_to
>>> answer_to(("walk", 4, 0, 0, 0, 2), (0, 1, 2, 1, 0), ((), "first_visit", 1, 0))
((), ((1, (4,)),))

>>> from undrawn.observations import is_observation
>>> is_observation(("subset", 5, 2), (((), "select", 1), ((), (0,))))
False

>>> from undrawn.counting import count_matching
>>> count_matching(("subset", 5, 2), ((((), "contains", 0), ((), (True,))),))
4

>>> from undrawn.counting import answer_counts
>>> answer_counts(("subset", 5, 2), (), ((), "select", 0))
((((), (0,)), 4), (((), (1,)), 3), (((), (2,)), 2), (((), (3,)), 1))

>>> from undrawn.counting import probability
>>> probability(("cycle", 4), (), ((), "successor", 0), ((), (1,)))
(1, 3)

>>> from undrawn.counting import is_determined
>>> is_determined(("subset", 3, 3), (), ((), "contains", 1))
True

>>> from undrawn.samplers import Sampler
>>> Sampler(("subset", 5, 2), 10)
raises InvalidSeed(bound=10)

>>> from undrawn.samplers import Sampler
>>> sampler = Sampler(("subset", 5, 2), 5)
>>> first = sampler.ask(((), "select", 0))
>>> seed, bound = sampler.seed_now(), sampler.bound_now()
>>> second = sampler.ask(((), "contains", 3))
>>> (first, seed, bound, second, sampler.seed_now())
(((), (1,)), 1, 3, ((), (False,)), 1)

>>> from undrawn.samplers import Sampler
>>> sampler = Sampler(("subset", 5, 2), 5)
>>> first = sampler.ask(((), "select", 0))
>>> second = sampler.ask(((), "contains", 3))
>>> sampler.retract(0)
>>> seed = sampler.seed_now()
>>> (seed, sampler.ask(((), "select", 0)))
(4, ((), (1,)))

>>> from undrawn.samplers import Sampler
>>> sampler = Sampler(("subset", 5, 2), 5)
>>> sampler.perform(("ask", "nothing"))
raises InvalidQuery(value='nothing')

>>> from undrawn.samplers import Sampler
>>> sampler = Sampler(("subset", 5, 2), 5)
>>> first = sampler.ask(((), "select", 0))
>>> second = sampler.ask(((), "contains", 3))
>>> sampler.retract(0)
>>> sampler.rewind(1)
>>> (sampler.seed_now(), sampler.bound_now(), len(sampler.log()))
(1, 3, 1)

>>> from undrawn.samplers import Sampler
>>> Sampler(("subset", 3, 1), 1).complete()
(1,)

>>> from undrawn.enumeration import object_at
>>> object_at(("subset", 3, 1), (), 2)
(0,)

>>> from undrawn.enumeration import seed_of
>>> seed_of(("subset", 3, 1), (), (0,))
2

>>> from undrawn.strategies import is_strategy
>>> is_strategy(("cycle", 3), (((), "successor", 0), (), None))
True

>>> from undrawn.strategies import run_strategy
>>> plan = (((), "contains", 0), ((((), (True,)), None),), (((), "contains", 1), (), None))
>>> run_strategy(("subset", 3, 1), plan, 1)
((((), 'contains', 0), ((), (False,))), (((), 'contains', 1), ((), (True,))))

>>> from undrawn.strategies import seed_range
>>> seed_range(("subset", 3, 1), ((((), "contains", 0), ((), (True,))),))
(2, 1)

>>> from undrawn.strategies import seed_range_for
>>> plan = (((), "contains", 0), ((((), (True,)), None),), (((), "contains", 1), (), None))
>>> seed_range_for(("subset", 3, 1), plan, (2,))
(0, 1)

>>> from undrawn.sharing import SharedSampler
>>> SharedSampler(("subset", 3, 1), 1, ("bob", "ann"))
raises InvalidUsers(value=('bob', 'ann'))

>>> from undrawn.sharing import SharedSampler
>>> shared = SharedSampler(("subset", 3, 1), 1, ("ann", "bob"))
>>> first = shared.ask("ann", ((), "contains", 0))
>>> second = shared.ask("bob", ((), "contains", 1))
>>> (first, second, shared.bound_for("ann"), shared.chance("ann", ((), "contains", 1), ((), (True,))))
(((), (False,)), ((), (True,)), 2, (1, 2))

>>> from undrawn.sharing import run_together
>>> plan = (((), "contains", 0), (), None)
>>> run_together(("subset", 3, 1), (plan, None), (1, 0, 0), 1)
(((((), 'contains', 0), ((), (False,))),), ())

>>> from undrawn.actions import run_actions
>>> actions = (("ask", ((), "select", 0)), ("ask", ((), "contains", 3)), ("retract", 0))
>>> run_actions(("subset", 5, 2), actions, 5)
((((), 'contains', 3), ((), (False,))),)

>>> from undrawn.actions import count_seeds
>>> actions = (("ask", ((), "select", 0)), ("ask", ((), "contains", 3)), ("retract", 0))
>>> count_seeds(("subset", 5, 2), actions, ((((), "contains", 3), ((), (False,))),))
6

>>> from undrawn.space_text import format_space
>>> format_space(("decorated", (("a", 2), ("b", 1)), (("cycle", 3), ("matching", 1))))
'decorated a 2 (cycle 3) b 1 (matching 1)'

>>> from undrawn.space_text import parse_space
>>> parse_space("permutation 4 0 2")
('permutation', 4, (0, 2))

>>> from undrawn.space_text import parse_space
>>> parse_space("subset 5  2")
raises ParseError

>>> from undrawn.query_text import format_query
>>> format_query(((("a", 2),), "entry", 0))
'a.2 : entry 0'

>>> from undrawn.query_text import parse_query
>>> parse_query(": letter_in 2 a b")
((), 'letter_in', 2, ('a', 'b'))

>>> from undrawn.answer_text import format_answer
>>> format_answer(((), ((2, (1, 1)),)))
'[2 [1 1]]'

>>> from undrawn.answer_text import format_answer
>>> format_answer(((0,), ()))
'other 0'

>>> from undrawn.console import Console
>>> console = Console()
>>> started = console.run("new 5 : subset 5 2")
>>> first = console.run("ask : select 0")
>>> (started, first, console.run("complete"))
('ok', '1', '[1 3]')

>>> from undrawn.claims import claim_holds
>>> claim_holds(("count", ("cycle", 4), (), 6))
True
"""


def outcome(code):
    """What the last line of the code returns or raises, as the document writes it; a parse error has a free message."""
    names = {}
    exec("\n".join(code[:-1]), names)
    try:
        return eval(code[-1], names)
    except Exception as error:
        shown = ", ".join(f"{name}={value!r}" for name, value in vars(error).items() if name != "message")
        return f"raises {type(error).__name__}({shown})".removesuffix("()")


class ExamplesTest(unittest.TestCase):
    def test_examples(self):
        sessions = [session.split("\n") for session in EXAMPLES.strip("\n").split("\n\n")]
        self.assertEqual(len(sessions), 39)
        for session in sessions:
            *code, wanted = session
            self.assertTrue(all(line.startswith(">>> ") for line in code), session)
            found = outcome([line[4:] for line in code])
            self.assertEqual(repr(found), repr(wanted if wanted.startswith("raises") else ast.literal_eval(wanted)), session)


if __name__ == "__main__":
    unittest.main()
