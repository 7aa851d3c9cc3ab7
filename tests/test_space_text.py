"""The texts of spaces."""

import unittest
from random import Random

from tests.brute_text import space_of, texts_near
from tests.changes import ODDITIES, unchanged
from tests.large import LEAVES, NESTED, at_once
from tests.samples import EVEN, NONE, ONE, ORDER, all_small, just_below
from tests.test_sampler import raised
from undrawn.errors import ParseError
from undrawn.space_text import format_space, parse_space
from undrawn.spaces import is_space

# Beside each other the text and the space.
TEXTS = [
    ("subset 5 2", ("subset", 5, 2)),
    ("word a 3 b 2", ("word", (("a", 3), ("b", 2)))),
    ("arrangement a", ("arrangement", ("item", "a"))),
    ("arrangement (series a (parallel b c d))", ("arrangement", ORDER)),
    ("walk 6 0 0 0 6", ("walk", 6, 0, 0, 0, 6)),
    ("walk 3 -1 0 -60 60", ("walk", 3, -1, 0, -60, 60)),
    ("cycle 5", ("cycle", 5)),
    ("matching 3", ("matching", 3)),
    ("permutation 4 0 2", ("permutation", 4, (0, 2))),
    ("permutation 4", ("permutation", 4, ())),
    ("permutation 0", ("permutation", 0, ())),
    ("tree 5", ("tree", 5)),
    ("string 6 : 0 a 1 0 b 0 : 1", ("string", (((0, "a", 1), (0, "b", 0)), (1,)), 6)),
    ("string 3 : :", ("string", ((), ()), 3)),
    ("string 3 : : 0 7", ("string", ((), (0, 7)), 3)),
    ("string 0 : 0 a 0 :", ("string", (((0, "a", 0),), ()), 0)),
    ("product (cycle 3) (matching 1)", ("product", (("cycle", 3), ("matching", 1)))),
    ("product (cycle 3)", ("product", (("cycle", 3),))),
    ("choice (cycle 3) (power 0 (matching 1))", ("choice", (("cycle", 3), ("power", 0, ("matching", 1))))),
    ("power 4 (cycle 3)", ("power", 4, ("cycle", 3))),
    ("decorated a 2 (cycle 3) b 1 (matching 1)", ("decorated", (("a", 2), ("b", 1)), (("cycle", 3), ("matching", 1)))),
    ("power 2 (arrangement (parallel a b))", ("power", 2, ("arrangement", ("parallel", (("item", "a"), ("item", "b")))))),
    ("choice (string 1 : :) (permutation 1)", ("choice", (("string", ((), ()), 1), ("permutation", 1, ())))),
    # Names that are words of the texts.
    ("word subset 1 word 2", ("word", (("subset", 1), ("word", 2)))),
    ("arrangement series", ("arrangement", ("item", "series"))),
    ("arrangement (series series item)", ("arrangement", ("series", (("item", "series"), ("item", "item"))))),
    ("string 2 : 0 cycle 0 0 string 0 : 0", ("string", (((0, "cycle", 0), (0, "string", 0)), (0,)), 2)),
    ("decorated power 1 (tree 2)", ("decorated", (("power", 1),), (("tree", 2),))),
]

WRONG = """
subset 5  2|subset  5 2| subset 5 2|subset 5 2 |subset 5 2 0|subset 5|subset|subset 2 3|subset 05 2|subset 5 02|subset +5 2
subset -0 0|subset 0 -0|subset 5 -2|subset 5 2.|subset five 2|subset 5,2|Subset 5 2|(subset 5 2)|subset (5) 2|subset 5 2)|(subset 5 2
subset 5 2 subset 5 2|subset: 5 2|subset 5:2|set 5 2|item a|5 2|word|word a|word a 0|word a 3 b|word b 2 a 3|word a 1 a 1|word 3 a
word (a 3) (b 2)|word A 3|word aaaaaaa 3|word a 3 b2|word a -1|arrangement|arrangement a b|arrangement (a)|arrangement (item a)
arrangement (series a)|arrangement (series)|arrangement series a b|arrangement (series a b c|arrangement (series a b c))
arrangement (series a ( parallel b c))|arrangement (series a (parallel b c) )|arrangement (series (parallel b c)a)
arrangement (series a a)|arrangement ((series a b))|arrangement (either a b)|arrangement ()|arrangement (series a 1)
walk 6 0 0 0 6 0|walk 6 0 0 0|walk 6 -0 0 0 6|walk 6 0 0 00 6|walk 6 0 0 0 - 6|walk 61 0 0 0 0|walk 1 0 0 1 1|cycle|cycle 0|cycle a|cycle 5 5
cycle (cycle 5)|matching -1|matching|permutation|permutation 4 2 0|permutation 4 4|permutation 4 0 0|permutation 4 (0 2)|permutation 4 0 -2
tree 0|tree 5 :|string|string 3|string 3 :|string 3 : : :|string : :|string 3 :  :|string 3 ::|string : 3 :|string 3 4 : :|string 3 : 0 a :
string 3 : 0 a 1 0 : |string 3 : 0 a 1 : 8|string 3 : 0 a 8 :|string 3 : 0 b 1 0 a 1 :|string 3 : a 0 1 :|string 3 : 0 a 1 : 1 0
product|product cycle 3|product (cycle 3) matching 1|product (cycle 3)(matching 1)|product(cycle 3)|product  (cycle 3)|product ( cycle 3)
product (cycle 3 )|product () (cycle 3)|product ((cycle 3))|product (cycle 0)|product (cycle 3|product cycle 3)|product )cycle 3(
choice|choice 1 (cycle 3)|power 4|power (cycle 3)|power 4 cycle 3|power 4 (cycle 3) (cycle 3)|power -1 (cycle 3)|power 4(cycle 3)
decorated|decorated a 2|decorated a 2 cycle 3|decorated a (cycle 3) 2|decorated (cycle 3) a 2|decorated a 2 b 1 (cycle 3) (matching 1)
decorated b 1 (cycle 3) a 2 (matching 1)|decorated a 2 (cycle 3) b 1|()|(|)|:|0|-|a|series a b|(series a b)|none
"""


class SpaceTextTest(unittest.TestCase):
    def fails(self, value):
        self.assertEqual(raised(parse_space, value)[0], ParseError, value)

    def test_document(self):
        self.assertEqual(format_space(TEXTS[20][1]), "decorated a 2 (cycle 3) b 1 (matching 1)")
        self.assertEqual(parse_space("permutation 4 0 2"), ("permutation", 4, (0, 2)))
        self.fails("subset 5  2")

    def test_interface(self):
        self.assertEqual(parse_space(text=format_space(space=ONE)), ONE)
        self.assertEqual({format_space.__module__, parse_space.__module__}, {"undrawn.space_text"})

    def test_texts(self):
        for text, space in TEXTS:
            self.assertEqual(format_space(space), text)
            self.assertEqual(repr(parse_space(text)), repr(space))
            self.assertEqual(space_of(text), space)

    def test_small_spaces(self):
        for space in all_small():
            text = format_space(space)
            self.assertEqual(space_of(text), space)
            self.assertEqual(repr(parse_space(text)), repr(space))
            self.assertTrue(unchanged(format_space, space) and unchanged(parse_space, text))

    def test_wrong_texts(self):
        texts = [text for row in WRONG.strip("\n").split("\n") for text in row.split("|")]
        self.assertGreater(len(texts), 120)
        for text in texts + ["", "subset 5 2\n", "subset\n5 2", "subset 5\n2", "\nsubset 5 2", "subset 5\t2", "word a\n3"]:
            self.assertIsNone(space_of(text), text)
            self.fails(text)

    def test_one_thing_changed(self):
        for text, _ in TEXTS:
            for other in texts_near(text, "() :-01a\n"):
                wanted = space_of(other)
                if wanted is None:
                    self.fails(other)
                else:
                    self.assertEqual(repr(parse_space(other)), repr(wanted), other)

    def test_several_things_changed(self):
        random = Random("texts")
        for text, _ in TEXTS:
            for _ in range(300):
                letters = list(text)
                for _ in range(random.randint(2, 4)):
                    at = random.randrange(len(letters))
                    letters[at:at + random.randint(0, 1)] = random.choice(["", "(", ")", " ", "1", "0", "a", ":", "-"])
                    letters = letters or [" "]
                other = "".join(letters)
                wanted = space_of(other)
                found = raised(parse_space, other)
                self.assertEqual(found is None, wanted is not None, other)
                if wanted is not None:
                    self.assertEqual(repr(parse_space(other)), repr(wanted))

    def test_any_value(self):
        for value in ODDITIES + [("subset", 5, 2), ["subset 5 2"], ("subset 5 2",), {"subset": "5 2"}]:
            self.fails(value)
            self.assertTrue(unchanged(lambda text: raised(parse_space, text)[0], value))

    def test_parse_error(self):
        error = raised(parse_space, "subset")
        self.assertEqual(error[0], ParseError)
        self.assertEqual(issubclass(error[0], ValueError), True)

    def test_spaces_beyond_the_limits(self):
        for text in ["subset 401 2", "word a 400 b 1", "cycle 401", "matching 201", "tree 401", "walk 61 0 0 0 1", "walk 0 61 61 0 61"]:
            self.fails(text)
        self.fails("power 400 (product (cycle 3) (cycle 3) (cycle 3) (cycle 3) (cycle 3) (cycle 3))")
        self.fails("product " + " ".join(["(cycle 1)"] * 7))
        self.fails("power 100 (string 60 : " + " ".join(f"0 {letter} 0" for letter in "abcdef") + " : 0)")
        for digits in (4, 400, 3900):
            self.fails(f"subset {'9' * digits} 2")
            self.fails(f"walk 1 -{'9' * digits} 0 0 0")

    def test_depth(self):
        for depth in range(1, 9):
            text = "power 1 (" * (depth - 1) + "cycle 3" + ")" * (depth - 1)
            self.assertEqual(raised(parse_space, text) is None, depth <= 6)
        deepest = "(series " * 4 + "(parallel a b)" + "".join(f" n{letter})" for letter in "abcd")
        text = "power 1 (" * 5 + f"arrangement {deepest}" + ")" * 5
        self.assertEqual(format_space(parse_space(text)), text)
        self.fails("power 1 (" * 5 + f"arrangement (series {deepest} ne)" + ")" * 5)

    def test_forty_parentheses(self):
        # Beyond 40, which need not work, it does.
        for depth in (11, 12, 13, 14, 39, 40, 41, 1900):
            self.fails("(" * depth + "cycle 3" + ")" * depth)
            self.fails("power 1 (" * depth + "cycle 3" + ")" * depth)
            self.fails("arrangement " + "(series a " * depth + "b" + ")" * depth)
            self.fails("(" * depth)
            self.fails(")" * depth)

    def test_limits(self):
        with at_once():
            for space in list(LEAVES.values()) + list(NESTED.values()) + [just_below(), ("product", (NONE, ("string", EVEN, 60)))]:
                text = format_space(space)
                self.assertEqual(repr(parse_space(text)), repr(space))
                self.assertTrue(is_space(space))
                self.fails(text + ")")
                self.fails(text[:-1] + " " + text[-1:])


if __name__ == "__main__":
    unittest.main()
