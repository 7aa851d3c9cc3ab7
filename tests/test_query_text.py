"""The texts of queries."""

import unittest
from random import Random

from tests.brute_answers import queries_of
from tests.brute_query_text import query_of
from tests.brute_text import texts_near
from tests.changes import ODDITIES, unchanged
from tests.large import LEAVES, NESTED, at_once
from tests.samples import all_small
from tests.test_sampler import raised
from undrawn.errors import ParseError
from undrawn.query_text import format_query, parse_query

LARGE = 10**3990 + 7

# Beside each other the text and the query.
TEXTS = [
    ("0 3 : select 4", ((0, 3), "select", 4)),
    (": letter_in 2 a b", ((), "letter_in", 2, ("a", "b"))),
    ("a.2 : entry 0", ((("a", 2),), "entry", 0)),
    (": contains 0", ((), "contains", 0)),
    (": rank 10", ((), "rank", 10)),
    (": select 0", ((), "select", 0)),
    (": select ab 12", ((), "select", "ab", 12)),
    (": letter 3", ((), "letter", 3)),
    (": prefix 3", ((), "prefix", 3)),
    (": entry 3", ((), "entry", 3)),
    (": locate name", ((), "locate", "name")),
    (": height 7", ((), "height", 7)),
    (": first_visit 0 -3", ((), "first_visit", 0, -3)),
    (": first_visit 5 0", ((), "first_visit", 5, 0)),
    (": last_visit 2 61", ((), "last_visit", 2, 61)),
    (": up 1", ((), "up", 1)),
    (": down 1", ((), "down", 1)),
    (": successor 399", ((), "successor", 399)),
    (": predecessor 0", ((), "predecessor", 0)),
    (": partner 0", ((), "partner", 0)),
    (": image 1", ((), "image", 1)),
    (": preimage 1", ((), "preimage", 1)),
    (": parent 1", ((), "parent", 1)),
    (": parent 0", ((), "parent", 0)),
    (": state 0", ((), "state", 0)),
    (": letter_in 0", ((), "letter_in", 0, ())),
    (": letter_in 1 b", ((), "letter_in", 1, ("b",))),
    (": state_in 0", ((), "state_in", 0, ())),
    (": state_in 60 0 7 8 1000", ((), "state_in", 60, (0, 7, 8, 1000))),
    (": selected", ((), "selected")),
    ("5 a.0 zzzzzz.11 0 0 : selected", ((5, ("a", 0), ("zzzzzz", 11), 0, 0), "selected")),
    # Words of the texts as names.
    (": locate select", ((), "locate", "select")),
    (": letter_in 0 letter prefix", ((), "letter_in", 0, ("letter", "prefix"))),
    ("select.1 : select up 2", ((("select", 1),), "select", "up", 2)),
    (f": height {LARGE}", ((), "height", LARGE)),
    (f": last_visit 0 -{LARGE}", ((), "last_visit", 0, -LARGE)),
    (f"a.{LARGE} : selected", ((("a", LARGE),), "selected")),
]

WRONG = """
 : contains 0|contains 0|0 contains 0|: contains|: contains 0 1|: contains -1|: contains 00|: contains 01|: contains +1|: contains -0|: contains a
:  contains 0|: contains  0|: contains 0 |:contains 0|: contains: 0|:: contains 0|: : contains 0|: contains 0 :|: contains :|:|: |
: Contains 0|: contain 0|: containss 0|: select|: select a|: select 1 a|: select a -1|: select a 01|: select a b|: select 1 2|: select a 1 2
: select aaaaaaa 1|: select A 1|: locate|: locate 1|: locate a b|: locate toolong|: locate A|: height -1|: height 1 2|: first_visit 0
: first_visit -1 0|: first_visit 0 -0|: first_visit 0 01|: first_visit 0 -01|: first_visit 0 --1|: first_visit 0 - 1|: first_visit 0 +1|: first_visit 0 1 2
: first_visit 0 a|: first-visit 0 1|: first visit 0 1|: last_visit 0|: last_visit|: up -1|: letter_in|: letter_in a|: letter_in 0 b a|: letter_in 0 a a
: letter_in 0 A|: letter_in 0 1|: letter_in 0 a  b|: letter_in 0 a,b|: letter_in -1 a|: state_in|: state_in 0 1 0|: state_in 0 1 1|: state_in 0 -1
: state_in 0 a|: state_in 0 01|: state_in 0 10 9|: selected 0|: selected a|: parent -1|: state|: state a|: foo 0|: product 0|: items 0
-1 : contains 0|00 : contains 0|-0 : contains 0|+1 : contains 0|a : contains 0|a2 : contains 0|a. : contains 0|.2 : contains 0|a.-1 : contains 0
a.01 : contains 0|a.2.3 : contains 0|a..2 : contains 0|a. 2 : contains 0|a .2 : contains 0|1.2 : contains 0|A.2 : contains 0|aaaaaaa.2 : contains 0
(a.2) : contains 0|a,2 : contains 0|a:2 : contains 0|0  0 : contains 0|0 0: contains 0|0 0 contains 0|0, 0 : contains 0|1. : contains 0
"""


class QueryTextTest(unittest.TestCase):
    def fails(self, value):
        self.assertEqual(raised(parse_query, value)[0], ParseError, value)

    def test_document(self):
        self.assertEqual(format_query(((("a", 2),), "entry", 0)), "a.2 : entry 0")
        self.assertEqual(parse_query(": letter_in 2 a b"), ((), "letter_in", 2, ("a", "b")))

    def test_interface(self):
        query = ((), "select", 4)
        self.assertEqual(parse_query(text=format_query(query=query)), query)
        self.assertEqual({format_query.__module__, parse_query.__module__}, {"undrawn.query_text"})

    def test_texts(self):
        for text, query in TEXTS:
            self.assertEqual(format_query(query), text)
            self.assertEqual(repr(parse_query(text)), repr(query))
            self.assertEqual(query_of(text), query)
            self.assertTrue(unchanged(format_query, query) and unchanged(parse_query, text))

    def test_every_word(self):
        words = {query[1] for space in all_small() for query in queries_of(space)}
        self.assertEqual({query[1] for _, query in TEXTS}, words)

    def test_small_spaces(self):
        for space in all_small():
            for query in queries_of(space):
                text = format_query(query)
                self.assertEqual(query_of(text), query)
                self.assertEqual(repr(parse_query(text)), repr(query))

    def test_wrong_texts(self):
        texts = [text for row in WRONG.strip("\n").split("\n") for text in row.split("|")]
        self.assertGreater(len(texts), 100)
        for text in texts + ["", "\n: selected", ": selected\n", ":\nselected", ": letter_in 0\na", "0\n: selected", ": state_in 0 1\n"]:
            self.assertIsNone(query_of(text), text)
            self.fails(text)

    def test_one_thing_changed(self):
        for text, _ in TEXTS:
            for other in texts_near(text, " .:-01a_\n") if len(text) < 100 else [text + " ", text.replace("0", "x"), "0" + text]:
                wanted = query_of(other)
                if wanted is None:
                    self.fails(other)
                else:
                    self.assertEqual(repr(parse_query(other)), repr(wanted), other)
                    self.assertEqual(format_query(wanted), other)

    def test_several_things_changed(self):
        random = Random("queries")
        for text, _ in TEXTS:
            for _ in range(300 if len(text) < 100 else 0):
                letters = list(text)
                for _ in range(random.randint(2, 4)):
                    at = random.randrange(len(letters))
                    letters[at:at + random.randint(0, 1)] = random.choice(["", " ", "1", "0", "a", ":", "-", ".", "b"])
                    letters = letters or [" "]
                other = "".join(letters)
                found = raised(parse_query, other)
                self.assertEqual(found is None, query_of(other) is not None, other)
                self.assertIn(found and found[0], (None, ParseError))

    def test_any_value(self):
        for value in ODDITIES + [((), "select", 4), [": select 4"], (": select 4",), {":": "select"}]:
            self.fails(value)
            self.assertTrue(unchanged(lambda text: raised(parse_query, text)[0], value))

    def test_limits(self):
        with at_once():
            for space in list(LEAVES.values()) + list(NESTED.values()):
                for query in queries_of(space)[:3000]:
                    self.assertEqual(parse_query(format_query(query)), query)
            many = ((0,) * 1900, "state_in", 0, tuple(range(900)))
            self.assertEqual(parse_query(format_query(many)), many)


if __name__ == "__main__":
    unittest.main()
