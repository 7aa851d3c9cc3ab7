"""Each clause of the definition of a space, broken by itself."""

import unittest

from tests.samples import EVEN, NONE, ONE, ORDER, SMALL
from undrawn.spaces import is_space, size_of

ITEM = ("item", "a")
LETTERS = "abcdef"


def letter_counts(*counts):
    return tuple(zip("abcdefg", counts))


def items(many):
    """Many items with names of their own."""
    names = [LETTERS[k // 216 % 6] + LETTERS[k // 36 % 6] + LETTERS[k // 6 % 6] + LETTERS[k % 6] for k in range(many)]
    return [("item", name) for name in names]


def grouped(orders):
    """Puts orders under parallel orders until one is left."""
    while len(orders) > 1:
        rows = [orders[k : k + 6] for k in range(0, len(orders), 6)]
        orders = [("parallel", tuple(row)) if len(row) > 1 else row[0] for row in rows]
    return orders[0]


def deep_order(depth):
    order = ITEM
    for k in range(depth - 1):
        order = (("series", "parallel")[k % 2], (("item", "b" + LETTERS[k]), order))
    return order


class IsSpaceTest(unittest.TestCase):
    def check(self, valid, invalid):
        for space in valid:
            self.assertIs(is_space(space), True, space)
        for value in invalid:
            self.assertIs(is_space(value), False, value)

    def test_document(self):
        self.assertIs(is_space(("subset", 2, 3)), False)

    def test_small_samples(self):
        self.assertEqual(len(SMALL), 13)
        for spaces in SMALL.values():
            self.check(spaces, [])

    def test_interface(self):
        self.assertIs(is_space(value=("cycle", 3)), True)
        self.assertEqual([function.__module__ for function in (is_space, size_of)], ["undrawn.spaces"] * 2)

    def test_subset(self):
        self.check(
            [("subset", 0, 0), ("subset", 400, 0), ("subset", 400, 400), ("subset", 1, 1)],
            [("subset", 401, 0), ("subset", 400, 401), ("subset", 3, 4), ("subset", 3, -1), ("subset", -1, -1)]
            + [("subset", 0, 1), ("subset", -1, 0), ("subset",), ("subset", 3), ("subset", 3, 1, 1)],
        )

    def check_counts(self, space_of):
        valid = [(1,), (400,), (399, 1), (1, 1, 1, 1, 1, 1), (395, 1, 1, 1, 1, 1)]
        invalid = [(), (0,), (1, 0), (-1,), (401,), (399, 2), (1,) * 7, (396, 1, 1, 1, 1, 1), (True,), ("a",)]
        pairs = [(("a",),), (("a", 1, 1),), (("b", 1), ("a", 1)), (("a", 1), ("a", 1)), (("a", 1), ("a", 2)), ((1, "a"),)]
        pairs += [(("", 1),), (("abcdefg", 1),), (("A", 1),), (("a1", 1),), (("a b", 1),), ((1, 1),), ("a", 1), (["a", 1],)]
        self.check([space_of(letter_counts(*counts)) for counts in valid], [])
        self.check([space_of((("abcdef", 1),)), space_of((("a", 1), ("aa", 1)))], [])
        self.check([], [space_of(letter_counts(*counts)) for counts in invalid])
        self.check([], [space_of(counts) for counts in pairs])
        self.check([], [space_of(counts) for counts in [[("a", 1)], None, "a", {"a": 1}]])

    def test_word(self):
        self.check_counts(lambda counts: ("word", counts))
        self.check([], [("word",), ("word", (("a", 1),), 1), ("word", ("a", 1))])

    def test_arrangement(self):
        pair = (("item", "a"), ("item", "b"))
        self.check(
            [("arrangement", order) for order in (ITEM, ORDER, ("series", pair), ("parallel", pair), ("item", "abcdef"))],
            [("arrangement",), ("arrangement", ITEM, ITEM), ("arrangement", "a"), ("arrangement", ()), ("arrangement", None)],
        )
        wrong = [("item",), ("item", "a", "b"), ("item", "A"), ("item", ""), ("item", "abcdefg"), ("item", 1), ("item", None)]
        wrong += [("series", ()), ("series", (ITEM,)), ("parallel", (ITEM,)), ("series", ITEM), ("series", list(pair))]
        wrong += [("serial", pair), (1, pair), ([], pair), ("series", pair, pair), ("series",), ["series", pair], pair]
        wrong += [("item", pair), ("series", "ab"), ("parallel", (ITEM, "b")), ("parallel", (ITEM, None)), ("a", "item")]
        self.check([], [("arrangement", order) for order in wrong])

    def test_names_of_an_arrangement_are_distinct(self):
        inner = ("parallel", (("item", "b"), ("item", "c")))
        self.check(
            [("arrangement", ("series", (ITEM, inner)))],
            [("arrangement", ("series", (ITEM, ITEM))), ("arrangement", ("series", (("item", "c"), inner)))],
        )

    def test_limits_of_an_arrangement(self):
        self.check(
            [("arrangement", grouped(items(400))), ("arrangement", ("series", tuple(items(6))))],
            [("arrangement", grouped(items(401))), ("arrangement", ("series", tuple(items(7))))],
        )
        self.check(
            [("arrangement", deep_order(6)), ("arrangement", ("parallel", tuple(items(6))))],
            [("arrangement", deep_order(7)), ("arrangement", ("parallel", tuple(items(7))))],
        )

    def test_walk(self):
        self.check(
            [("walk", 0, 0, 0, 0, 0), ("walk", 60, -60, 60, -60, 60), ("walk", 3, 60, 60, 60, 60), ("walk", 3, 2, 0, 0, 2)],
            [("walk", -1, 0, 0, 0, 0), ("walk", 61, 0, 0, 0, 0), ("walk", 2, 0, 0, -61, 0), ("walk", 2, 0, 0, 0, 61)]
            + [("walk", 2, -1, 0, 0, 2), ("walk", 2, 0, -1, 0, 2), ("walk", 2, 3, 0, 0, 2), ("walk", 2, 0, 3, 0, 2)]
            + [("walk", 2, 61, 61, 61, 61), ("walk", 2, -61, -61, -61, -61), ("walk", 2, 0, 0, 1, -1), ("walk", 2, 0, 0, 0)]
            + [("walk", 2, 0, 0, 0, 0, 0), ("walk",), ("walk", 0, 0, 0, 0, False), ("walk", 0, None, 0, 0, 0)],
        )

    def test_cycle_matching_tree(self):
        self.check(
            [("cycle", 1), ("cycle", 400), ("matching", 0), ("matching", 200), ("tree", 1), ("tree", 400)],
            [("cycle", 0), ("cycle", 401), ("matching", -1), ("matching", 201), ("tree", 0), ("tree", 401), ("tree", -1)]
            + [(kind, *rest) for kind in ("cycle", "matching", "tree") for rest in ((), (1, 1), ("1",), (True,), ((1,),))],
        )

    def test_permutation(self):
        self.check(
            [("permutation", 0, ()), ("permutation", 60, tuple(range(60))), ("permutation", 3, (2,)), ("permutation", 1, ())],
            [("permutation", -1, ()), ("permutation", 61, ()), ("permutation", 3, (3,)), ("permutation", 3, (-1,))]
            + [("permutation", 3, (1, 0)), ("permutation", 3, (1, 1)), ("permutation", 0, (0,)), ("permutation", 3, [1])]
            + [("permutation", 3), ("permutation", 3, 1), ("permutation", 3, (True,)), ("permutation", 3, ("1",))]
            + [("permutation", 3, (1, None)), ("permutation", 3, (), ()), ("permutation", 60, tuple(range(61)))],
        )

    def test_string(self):
        self.check(
            [("string", ((), ()), 0), ("string", EVEN, 60), ("string", ((), tuple(range(8))), 1)],
            [("string", EVEN, 61), ("string", EVEN, -1), ("string", EVEN), ("string", EVEN, 1, 1), ("string", (), 1)]
            + [("string", EVEN + (1,), 1), ("string", list(EVEN), 1), ("string", EVEN[:1], 1), ("string", 1, EVEN)],
        )
        good = [((0, "a", 0),), ((7, "abcdef", 7),), ((0, "a", 1), (0, "b", 1)), ((0, "a", 1), (1, "a", 0))]
        wrong = [((0, "a"),), ((0, "a", 1, 1),), ((0, "A", 1),), ((0, "abcdefg", 1),), ((0, 1, 1),), ((8, "a", 0),), (0, "a", 1)]
        wrong += [((0, "a", 8),), ((-1, "a", 0),), ((0, "a", -1),), ((False, "a", 0),), ((0, "a", False),), ([0, "a", 1],), "a"]
        wrong += [((0, "b", 0), (0, "a", 0)), ((1, "a", 0), (0, "a", 0)), ((0, "a", 0), (0, "a", 0)), [(0, "a", 0)], None, 0]
        wrong += [((0, "a", 0), (0, "a", 1)), ((0, "a", 1), (0, "a", 0)), ((None, "a", 1),), ((0, "a", 1), None)]
        self.check([("string", (moves, ()), 1) for moves in good], [("string", (moves, ()), 1) for moves in wrong])
        wrong = [(8,), (-1,), (1, 0), (1, 1), (True,), ("a",), [0], 0, None, (0, None), tuple(range(9))]
        self.check([("string", ((), (0, 7)), 1)], [("string", ((), accepting), 1) for accepting in wrong])

    def test_moves_and_letters_of_an_automaton(self):
        moves = tuple((state, letter, 7 - state) for state in range(8) for letter in LETTERS)
        more = moves + ((7, "g", 0),)
        seven = tuple((0, letter, 1) for letter in "abcdefg")
        self.assertEqual((len(moves), len(more)), (48, 49))
        self.check(
            [("string", (moves, (0,)), 2), ("string", (seven[:6], ()), 2)],
            [("string", (more, (0,)), 2), ("string", (seven, ()), 2), ("string", (seven[:3] + ((1, "x", 0),) + more[24:], ()), 2)],
        )
        far = tuple((state, "abcdefg"[state], 0) for state in range(7))
        self.check([("string", (far[:6], ()), 2)], [("string", (far, ()), 2)])

    def test_product_and_choice(self):
        for kind in ("product", "choice"):
            self.check(
                [(kind, (ONE,)), (kind, (ONE,) * 6), (kind, (NONE, ("tree", 5)))],
                [(kind, ()), (kind, (ONE,) * 7), (kind, [ONE]), (kind, ONE), (kind, ONE, ONE), (kind,), (kind, (ONE, 1))]
                + [(kind, (ONE, None)), (kind, (ONE, ("cycle", 0)))],
            )

    def test_power(self):
        self.check(
            [("power", 0, ONE), ("power", 400, ONE), ("power", 3, ("tree", 5))],
            [("power", -1, ONE), ("power", 401, ONE), ("power", ONE, 3), ("power", 3), ("power", 3, ONE, ONE)]
            + [("power", 3, (ONE,)), ("power", 0, 1), ("power", 0, ("cycle", 0)), ("power", True, ONE), ("power", "3", ONE)],
        )

    def test_decorated(self):
        self.check_counts(lambda counts: ("decorated", counts, (ONE,) * (len(counts) if counts else 1)))
        two = (("a", 2), ("b", 1))
        self.check(
            [("decorated", two, (ONE, NONE))],
            [("decorated", two, (ONE,)), ("decorated", two, (ONE,) * 3), ("decorated", two), ("decorated", two, [ONE, ONE])]
            + [("decorated", (ONE, ONE), two), ("decorated", two, ONE), ("decorated", two, (ONE, ("tree", 0)))]
            + [("decorated", two, (ONE, ONE), 1), ("decorated", (), ())],
        )
