"""Lines that a console executes."""

import re
import unittest
from random import Random

from tests.brute_answers import queries_of
from tests.brute_counts import listed
from tests.brute_query_text import NATURAL, query_of
from tests.brute_text import space_of, texts_near
from tests.changes import ODDITIES, unchanged
from tests.large import LEAVES, NESTED, at_once
from tests.samples import NONE, ONE, all_small, just_below
from tests.test_answer_text import text_of
from tests.test_sampler import raised, view
from undrawn.answer_text import format_answer
from undrawn.console import Console
from undrawn.errors import InvalidLine, InvalidObservation, InvalidQuery, InvalidRewind, InvalidSeed, NoMatch
from undrawn.query_text import format_query
from undrawn.samplers import Sampler
from undrawn.space_text import format_space
from undrawn.spaces import size_of

SUBSET = ("subset", 5, 2)
START = "new 5 : subset 5 2"
BARE = ("bound", "seed", "history", "complete")
LINES = BARE + ("ask : select 0", "ask : contains 3", "retract 0", "rewind 1", START, "new 0 : string 3 : 0 a 0 : 0")


def started(*lines):
    console = Console()
    for line in (START,) + lines:
        console.run(line)
    return console


def is_line(text):
    """Whether the text is a line of a console that has a sampler."""
    if text in BARE or re.fullmatch(f"(?:retract|rewind) {NATURAL}", text):
        return True
    new = re.fullmatch(f"new {NATURAL} : (.*)", text, re.S)
    if new:
        return space_of(new[1]) is not None
    return text.startswith("ask ") and query_of(text[4:]) is not None


class ConsoleTest(unittest.TestCase):
    def test_document(self):
        console = Console()
        self.assertEqual([console.run(START), console.run("ask : select 0"), console.run("complete")], ["ok", "1", "[1 3]"])

    def test_interface(self):
        console = Console()
        self.assertIsNone(console.sampler())
        self.assertEqual(console.run(line=START), "ok")
        self.assertEqual([name for name in ("run", "sampler", "__init__") if name not in vars(Console)], [])
        self.assertEqual(Console.__module__, "undrawn.console")

    def test_each_line(self):
        console = Console()
        lines = [START, "bound", "seed", "history", "ask : select 0", "bound", "seed", "history", "ask : contains 3", "seed"]
        wanted = ["ok", "10", "5", "0", "1", "3", "1", "1", "no", "1"]
        lines += ["retract 0", "seed", "bound", "history", "rewind 1", "history", "seed", "complete", "rewind 0", "bound", "complete"]
        wanted += ["ok", "4", "6", "1", "ok", "1", "1", "[1 3]", "ok", "10", text_of(Sampler(SUBSET, 5).complete())]
        self.assertEqual([console.run(line) for line in lines], wanted)
        self.assertEqual(view(console.sampler()), view(Sampler(SUBSET, 5)))

    def test_without_a_sampler(self):
        for line in LINES:
            console = Console()
            if not line.startswith("new"):
                self.assertEqual(raised(console.run, line), (InvalidLine, {"line": line}))
                self.assertIsNone(console.sampler())
        for line, error in [("new 10 : subset 5 2", InvalidSeed), ("new 0 : permutation 1 0", NoMatch), ("new : subset 5 2", InvalidLine)]:
            console = Console()
            self.assertEqual(raised(console.run, line)[0], error)
            self.assertIsNone(console.sampler())
            self.assertEqual(raised(console.run, "bound"), (InvalidLine, {"line": "bound"}))

    def test_any_value(self):
        for console in (Console(), started("ask : select 0")):
            before = console.sampler() and view(console.sampler())
            for value in ODDITIES + [["bound"], ("bound",), {"bound": 0}, ("ask", ((), "select", 0))]:
                self.assertEqual(raised(console.run, value), (InvalidLine, {"line": value}))
                self.assertTrue(unchanged(lambda line: raised(console.run, line), value))
            self.assertEqual(console.sampler() and view(console.sampler()), before)

    def test_wrong_lines(self):
        console = started("ask : select 0", "ask : contains 3")
        held, before = console.sampler(), view(console.sampler())
        for line in LINES:
            for other in texts_near(line, " .:-01a()\n") + [f"{line} {word}" for word in ("0", "a", ":", "bound")] + [line.replace(" ", "  ", 1)]:
                if not is_line(other):
                    self.assertEqual(raised(console.run, other), (InvalidLine, {"line": other}))
        for line in ["", " ", "ask", "ask ", "ask select 0", "ask ((), 'select', 0)", "ask :", "asks : select 0", "new", "new 5", "new 5 :", "new 5 : "]:
            self.assertEqual(raised(console.run, line), (InvalidLine, {"line": line}))
        for line in ["new +5 : subset 5 2", "new 05 : subset 5 2", "new -1 : subset 5 2", "new 5: subset 5 2", "new 5 :subset 5 2", "retract -1"]:
            self.assertEqual(raised(console.run, line), (InvalidLine, {"line": line}))
        for line in ["retract 0 0", "retract", "retract a", "rewind +1", "rewind 00", "rewind", "sampler", "log", "size", "Bound", "bound\n", "perform"]:
            self.assertEqual(raised(console.run, line), (InvalidLine, {"line": line}))
        self.assertIs(console.sampler(), held)
        self.assertEqual(view(held), before)

    def test_errors_of_the_sampler(self):
        console = started("ask : select 0", "ask : contains 3")
        held, before = console.sampler(), view(console.sampler())
        large = 10**3990
        for line, wanted in [
            ("new 10 : subset 5 2", (InvalidSeed, {"bound": 10})),
            (f"new {large} : cycle 5", (InvalidSeed, {"bound": 24})),
            ("new 0 : permutation 1 0", (NoMatch, {"observations": ()})),
            ("ask : select 2", (InvalidQuery, {"value": ((), "select", 2)})),
            ("ask 0 : select 0", (InvalidQuery, {"value": ((0,), "select", 0)})),
            ("ask a.2 : letter_in 0", (InvalidQuery, {"value": ((("a", 2),), "letter_in", 0, ())})),
            (f"ask : rank {large}", (InvalidQuery, {"value": ((), "rank", large)})),
            ("retract 2", (InvalidObservation, {"index": 2})),
            (f"retract {large}", (InvalidObservation, {"index": large})),
            ("rewind 3", (InvalidRewind, {"length": 3})),
            (f"rewind {large}", (InvalidRewind, {"length": large})),
        ]:
            self.assertEqual(raised(console.run, line), wanted)
            self.assertIs(console.sampler(), held)
            self.assertEqual(view(held), before)
            self.assertTrue(unchanged(lambda text: raised(console.run, text), line))

    def test_the_sampler_itself(self):
        console = started()
        sampler = console.sampler()
        self.assertIs(console.sampler(), sampler)
        console.run("ask : select 0")
        self.assertEqual((len(sampler), sampler.log()), (1, (("ask", ((), "select", 0)),)))
        sampler.ask(((), "contains", 3))
        self.assertEqual(console.run("history"), "2")
        self.assertEqual(console.run("rewind 0"), "ok")
        self.assertEqual(view(sampler), view(Sampler(SUBSET, 5)))

    def test_a_new_sampler(self):
        console = started("ask : select 0")
        old = console.sampler()
        before = view(old)
        self.assertEqual(console.run("new 2 : cycle 4"), "ok")
        self.assertIsNot(console.sampler(), old)
        self.assertEqual(view(console.sampler()), view(Sampler(("cycle", 4), 2)))
        console.run("ask : successor 0")
        self.assertEqual(view(old), before)
        old.ask(((), "contains", 3))
        self.assertEqual((console.run("history"), console.run("bound")), ("1", "2"))

    def test_consoles_share_nothing(self):
        one, two = started(), started()
        one.run("ask : select 0")
        self.assertEqual((two.run("history"), view(two.sampler())), ("0", view(Sampler(SUBSET, 5))))
        self.assertIsNone(Console().sampler())

    def test_objects(self):
        for space, wanted in [
            (("tree", 3), "[none 0 0]"),
            (("tree", 1), "[none]"),
            (ONE, "[0]"),
            (("matching", 0), "[]"),
            (("power", 0, NONE), "[]"),
            (("power", 2, ("matching", 0)), "[[] []]"),
            (("choice", (NONE, ("tree", 2))), "[1 [none 0]]"),
            (("decorated", (("a", 1), ("b", 1)), (("tree", 2), ("walk", 1, 0, -1, -1, 0))), "[[a [none 0]] [b [0 -1]]]"),
        ]:
            console = Console()
            console.run(f"new 0 : {format_space(space)}")
            self.assertEqual(console.run("complete"), wanted)
            self.assertEqual(console.run("complete"), wanted)
            self.assertEqual(view(console.sampler()), view(Sampler(space, 0)))

    def test_small_spaces(self):
        for space in all_small():
            objects, queries, _ = listed(space)
            random = Random(f"console {space}")
            for _ in range(3 if objects else 0):
                seed = random.randrange(len(objects))
                console, sampler = Console(), Sampler(space, seed)
                self.assertEqual(console.run(f"new {seed} : {format_space(space)}"), "ok")
                for query in [random.choice(queries) for _ in range(4)] if queries else []:
                    self.assertEqual(console.run(f"ask {format_query(query)}"), format_answer(sampler.ask(query)))
                self.assertEqual(console.run("complete"), text_of(sampler.complete()).replace("None", "none"))
                for line, value in [("bound", sampler.bound_now()), ("seed", sampler.seed_now()), ("history", len(sampler))]:
                    self.assertEqual(console.run(line), str(value))
                if len(sampler):
                    sampler.retract(1)
                    self.assertEqual(console.run("retract 1"), "ok")
                    sampler.rewind(3)
                    self.assertEqual(console.run("rewind 3"), "ok")
                self.assertEqual(view(console.sampler()), view(sampler))

    def test_limits(self):
        for space in list(LEAVES.values()) + list(NESTED.values()) + [just_below()]:
            size = size_of(space)
            queries = queries_of(space)
            with at_once():
                console, sampler = Console(), Sampler(space, size - 1)
                self.assertEqual(console.run(f"new {size - 1} : {format_space(space)}"), "ok")
                self.assertEqual((console.run("bound"), console.run("seed")), (str(size), str(size - 1)))
                for query in queries[:: 1 + len(queries) // 20]:
                    self.assertEqual(console.run(f"ask {format_query(query)}"), format_answer(sampler.ask(query)))
                self.assertEqual(view(console.sampler()), view(sampler))

    def test_a_hundred_lines(self):
        with at_once():
            console = Console()
            console.run(f"new 12345 : {format_space(LEAVES['tree'])}")
            for k in range(100):
                console.run(f"retract {k % 7}" if k % 4 == 3 and k > 20 else f"ask : parent {1 + k * 3}")
            self.assertEqual(len(console.sampler().log()), 100)
            self.assertEqual(console.run("rewind 100"), "ok")
            self.assertEqual(console.run("rewind 0"), "ok")
            self.assertEqual(console.run("seed"), "12345")


if __name__ == "__main__":
    unittest.main()
