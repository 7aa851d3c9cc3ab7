"""The names, the places and the arguments that the document lists."""

import inspect
import unittest
from importlib import import_module

from undrawn import limits

INTERFACE = {
    "spaces": ["is_space(value)", "size_of(space)"],
    "objects": ["is_object(space, value)"],
    "queries": ["is_query(space, value)"],
    "answers": ["answer_to(space, obj, query)"],
    "observations": ["is_observation(space, value)"],
    "counting": [
        "count_matching(space, observations)",
        "answer_counts(space, observations, query, *, limit=500)",
        "probability(space, observations, query, answer)",
        "is_determined(space, observations, query)",
    ],
    "samplers": ["Sampler(space, seed, observations=())"],
    "enumeration": ["object_at(space, observations, seed)", "seed_of(space, observations, obj)"],
    "strategies": [
        "is_strategy(space, value)",
        "run_strategy(space, strategy, seed)",
        "seed_range(space, observations)",
        "seed_range_for(space, strategy, obj)",
    ],
    "sharing": ["SharedSampler(space, seed, users)", "run_together(space, strategies, turns, seed)"],
    "actions": ["run_actions(space, actions, seed)", "count_seeds(space, actions, observations)"],
    "space_text": ["format_space(space)", "parse_space(text)"],
    "query_text": ["format_query(query)", "parse_query(text)"],
    "answer_text": ["format_answer(answer)"],
    "console": ["Console()"],
    "claims": ["claim_holds(value)"],
}

METHODS = {
    "samplers.Sampler": """space_used(self) seed_now(self) bound_now(self) history(self) ask(self,query) retract(self,index)
        perform(self,action) log(self) rewind(self,length) complete(self) __len__(self) __eq__(self,other)""",
    "sharing.SharedSampler": "ask(self,user,query) seen(self,user) bound_for(self,user) chance(self,user,query,answer) sampler(self)",
    "console.Console": "run(self,line) sampler(self)",
}


class InterfaceTest(unittest.TestCase):
    def test_functions_and_classes(self):
        for name, wanted in INTERFACE.items():
            module = import_module(f"undrawn.{name}")
            for text in wanted:
                found = getattr(module, text.partition("(")[0])
                self.assertEqual(found.__module__, module.__name__)
                self.assertEqual(found.__name__ + str(inspect.signature(found)), text)

    def test_methods(self):
        for name, wanted in METHODS.items():
            module, _, kind = name.partition(".")
            found = vars(getattr(import_module(f"undrawn.{module}"), kind))
            for text in wanted.split():
                method = found[text.partition("(")[0]]
                self.assertEqual(method.__name__ + str(inspect.signature(method)).replace(" ", ""), text)

    def test_limits(self):
        self.assertEqual((limits.DIGITS, limits.LIMIT, limits.LEAVES), (4000, 500, 2000))


if __name__ == "__main__":
    unittest.main()
