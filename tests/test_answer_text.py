"""The texts of answers."""

import unittest

from tests.brute_counts import listed
from tests.changes import unchanged
from tests.samples import all_small
from undrawn.answer_text import format_answer

LARGE = 10**3999

TEXTS = [
    (((), ((2, (1, 1)),)), "[2 [1 1]]"),
    (((0,), ()), "other 0"),
    (((1, 2), ()), "other 2"),
    (((3, 0, 5, 4), ()), "other 4"),
    (((), (True,)), "yes"),
    (((), (False,)), "no"),
    (((), (0,)), "0"),
    (((), (1,)), "1"),
    (((), (-60,)), "-60"),
    (((), (LARGE,)), "1" + "0" * 3999),
    (((), ("a",)), "a"),
    (((), ("yes",)), "yes"),
    (((), ((),)), "[]"),
    (((), (((),),)), "[[]]"),
    (((), (((), ()),)), "[[] []]"),
    (((), ((0,),)), "[0]"),
    (((), ((1, 2, 0),)), "[1 2 0]"),
    (((), (((1, 0), "a"),)), "[[1 0] a]"),
    (((), ((4, ()),)), "[4 []]"),
    (((), ((4, (7,)),)), "[4 [7]]"),
    (((), ((True, 1, False, 0),)), "[yes 1 no 0]"),
    (((), (((((1, 0), 1), ((0, 2), 0)), "name"),)), "[[[[1 0] 1] [[0 2] 0]] name]"),
    (((), ((((((((5,),),),),),),),)), "[[[[[[[5]]]]]]]"),
    (((1, 0), ("other",)), "other"),
    (((1, 0), (3,)), "3"),
    (((7,), (((), -1, True, "b", ((),)),)), "[[] -1 yes b [[]]]"),
]


def text_of(item):
    """Written from Python's own text of the item, whose words and signs are exchanged one by one."""
    text = repr(item).replace(",)", ")").replace(",", "").replace("(", "[").replace(")", "]").replace("'", "")
    return text.replace("True", "yes").replace("False", "no")


class AnswerTextTest(unittest.TestCase):
    def test_document(self):
        self.assertEqual(format_answer(((), ((2, (1, 1)),))), "[2 [1 1]]")
        self.assertEqual(format_answer(((0,), ())), "other 0")

    def test_interface(self):
        self.assertEqual(format_answer(answer=((), (True,))), "yes")
        self.assertEqual(format_answer.__module__, "undrawn.answer_text")

    def test_texts(self):
        for answer, text in TEXTS:
            self.assertEqual(format_answer(answer), text)
            self.assertTrue(unchanged(format_answer, answer))

    def test_small_spaces(self):
        for space in all_small():
            for answers in listed(space)[2].values():
                for selections, result in sorted(set(answers)):
                    wanted = text_of(result[0]) if result else f"other {selections[-1]}"
                    self.assertEqual(format_answer((selections, result)), wanted)

    def test_deep_items(self):
        item = 3
        for depth in range(1, 38):
            item = (item, (), "a")
            self.assertEqual(format_answer(((), (item,))), "[" * depth + "3" + " [] a]" * depth)

    def test_long_items(self):
        self.assertEqual(format_answer(((), (tuple(range(3000)),))), "[" + " ".join(map(str, range(3000))) + "]")


if __name__ == "__main__":
    unittest.main()
