"""Spaces for the tests."""

ONE = ("cycle", 1)
NONE = ("permutation", 1, (0,))

ORDER = ("series", (("item", "a"), ("parallel", (("item", "b"), ("item", "c"), ("item", "d")))))
EVEN = (((0, "a", 1), (0, "b", 0), (1, "a", 0), (1, "b", 1)), (0,))

# From state 1 no move leads on, and from state 2 none to an accepting state.
DEAD_ENDS = (((0, "a", 0), (0, "b", 1), (0, "c", 2), (2, "a", 2)), (0, 1))

# Five letters lead from state 0 to state 1 and two lead back, so there are 10 ** n strings of length 2 * n.
TENS = (tuple((0, letter, 1) for letter in "abcde") + ((1, "a", 0), (1, "b", 0)), (0,))

SMALL = {
    "subset": [("subset", 0, 0), ("subset", 5, 0), ("subset", 5, 2), ("subset", 4, 4)],
    "word": [("word", (("a", 1),)), ("word", (("a", 3), ("b", 2))), ("word", (("ab", 1), ("b", 2), ("zzzzzz", 3)))],
    "arrangement": [
        ("arrangement", ("item", "a")),
        ("arrangement", ("series", (("item", "b"), ("item", "a")))),
        ("arrangement", ("parallel", (("item", "b"), ("item", "a"), ("item", "c")))),
        ("arrangement", ORDER),
        ("arrangement", ("parallel", (ORDER, ("series", (("item", "x"), ("item", "y")))))),
    ],
    "walk": [
        ("walk", 0, 0, 0, 0, 0),
        ("walk", 0, 0, 1, 0, 1),
        ("walk", 1, 0, 0, -1, 1),
        ("walk", 1, 0, 0, 0, 0),
        ("walk", 6, 0, 0, 0, 6),
        ("walk", 7, -2, 1, -3, 1),
        ("walk", 5, 3, 0, -60, 60),
    ],
    "cycle": [("cycle", n) for n in (1, 2, 3, 4, 5)],
    "matching": [("matching", m) for m in (0, 1, 2, 3)],
    "permutation": [
        ("permutation", 0, ()),
        ("permutation", 1, ()),
        ("permutation", 1, (0,)),
        ("permutation", 4, ()),
        ("permutation", 4, (0, 2)),
        ("permutation", 5, (1, 2, 4)),
        ("permutation", 5, (0, 1, 2, 3, 4)),
    ],
    "tree": [("tree", n) for n in (1, 2, 3, 4, 5)],
    "string": [
        ("string", ((), ()), 0),
        ("string", ((), (0,)), 0),
        ("string", ((), (0, 7)), 3),
        ("string", (((0, "a", 7), (7, "b", 0)), (7,)), 3),
        ("string", DEAD_ENDS, 3),
        ("string", EVEN, 0),
        ("string", EVEN, 5),
        ("string", TENS, 3),
        ("string", TENS, 4),
    ],
    "product": [
        ("product", (("cycle", 4),)),
        ("product", (("cycle", 4), ("subset", 4, 2), ("matching", 2))),
        ("product", (("cycle", 3), NONE, ("tree", 3))),
        ("product", (("product", (("tree", 3), ("choice", (ONE, NONE, ("tree", 3))))), ("power", 2, ("cycle", 3)))),
    ],
    "choice": [
        ("choice", (("cycle", 4),)),
        ("choice", (NONE,)),
        ("choice", (NONE, ("cycle", 3), NONE, ("subset", 5, 2), ("cycle", 3), ONE)),
        ("choice", (("choice", (("tree", 4), ONE)), ("choice", (NONE, ("word", (("a", 2), ("b", 2))))))),
    ],
    "power": [
        ("power", 0, ("cycle", 4)),
        ("power", 0, NONE),
        ("power", 1, ("tree", 4)),
        ("power", 3, ("cycle", 4)),
        ("power", 2, NONE),
        ("power", 2, ("power", 2, ("choice", (ONE, ("cycle", 3))))),
    ],
    "decorated": [
        ("decorated", (("a", 2), ("b", 1)), (("cycle", 3), ("matching", 1))),
        ("decorated", (("a", 1), ("b", 2), ("c", 1)), (("cycle", 3), ("tree", 3), ("walk", 2, 0, 0, -1, 1))),
        ("decorated", (("a", 2), ("b", 1)), (("cycle", 3), NONE)),
        ("decorated", (("a", 2),), (("decorated", (("a", 1), ("b", 1)), (("matching", 2), ONE)),)),
        ("decorated", (("a", 1), ("b", 1)), (("power", 2, ("subset", 3, 1)), ("choice", (ONE, NONE)))),
    ],
}


def all_small():
    return [space for spaces in SMALL.values() for space in spaces]


def tens(digits):
    """A space with 10 ** digits objects and few parts."""
    whole, rest = digits // 30, digits % 30
    spaces = ()
    if whole > 0:
        spaces += (("power", whole, ("string", TENS, 60)),)
    if rest > 0:
        spaces += (("string", TENS, 2 * rest),)
    return spaces[0] if len(spaces) == 1 else ("product", spaces)


def tens_and_one(digits, length):
    """A space with 10 ** digits + 1 objects; digits is a multiple of length."""
    return ("choice", (("power", digits // length, ("string", TENS, 2 * length)), ONE))


def just_below():
    """A space with 10 ** 4000 - 1 objects, by the factors of this number; it has 40 parts."""
    factors = tuple(tens_and_one(digits, 20) for digits in (2000, 1000, 500)) + (tens_and_one(250, 25),)
    fives = tuple(("power", copies, ("string", TENS, 50)) for copies in (4, 3, 2)) + (("string", TENS, 50), ONE)
    ones = tuple(("string", TENS, 2 * digits) for digits in (20, 15, 10, 5)) + (ONE,)
    rest = (("choice", fives), ("choice", ones)) + tuple(("subset", n, 1) for n in (9, 41, 271))
    return ("product", factors + (tens_and_one(125, 25), ("product", rest)))
