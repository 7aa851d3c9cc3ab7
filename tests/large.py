"""Spaces at the limits, and a guard for calls that must be fast."""

from contextlib import contextmanager
from time import perf_counter

from tests.samples import NONE, ONE, just_below

LETTERS = "abcdef"


def name_of(number):
    """A name of its own for each number below 26 ** 3."""
    return "n" + "".join(chr(ord("a") + number // 26**k % 26) for k in (2, 1, 0))


def nested_order(word, first, many, widths):
    """An order with so many names, where the orders at each level have so many orders of about the same size."""
    if many == 1:
        return ("item", name_of(first))
    width = min(widths[0], many)
    sizes = [many // width + (k < many % width) for k in range(width)]
    starts = [first + sum(sizes[:k]) for k in range(width)]
    return (word, tuple(nested_order(word, start, size, widths[1:]) for start, size in zip(starts, sizes)))


def lopsided_order(first, many, depth):
    """A parallel order with one large order among small ones at each level."""
    if depth == 1 or many <= 6:
        return ("parallel", tuple(("item", name_of(first + k)) for k in range(many)))
    small = tuple(("item", name_of(first + k)) for k in range(5))
    return ("parallel", small + (lopsided_order(first + 5, many - 5, depth - 1),))


def mixed_order():
    rows = [nested_order("parallel", 100 * k, 100, (4, 5, 5)) for k in range(4)]
    return ("series", (("parallel", tuple(rows[:2])), ("parallel", (rows[2], ("series", rows[3][1])))))


def all_moves():
    return tuple((state, letter, (3 * state + k) % 8) for state in range(8) for k, letter in enumerate(LETTERS))


SIXTHS = tuple(zip(LETTERS, (67, 67, 67, 67, 66, 66)))
SERIES = ("series", (nested_order("series", 0, 200, (6, 6, 6)), nested_order("parallel", 200, 200, (6, 6, 6))))

LEAVES = {
    "subset": ("subset", 400, 200),
    "word": ("word", SIXTHS),
    "two letters": ("word", (("a", 200), ("b", 200))),
    "parallel": ("arrangement", nested_order("parallel", 0, 400, (6, 6, 6, 6))),
    "fours": ("arrangement", nested_order("parallel", 0, 400, (4, 4, 4, 4, 4))),
    "lopsided": ("arrangement", lopsided_order(0, 26, 5)),
    "mixed": ("arrangement", mixed_order()),
    "series": ("arrangement", SERIES),
    "walk": ("walk", 60, 0, 0, -60, 60),
    "narrow walk": ("walk", 60, -3, 5, -3, 5),
    "cycle": ("cycle", 400),
    "matching": ("matching", 200),
    "permutation": ("permutation", 60, tuple(range(60))),
    "tree": ("tree", 400),
    "string": ("string", (all_moves(), (0, 3, 5)), 60),
}


def deepest():
    """A space that is nested 6 deep, with one of each kind that nests."""
    space = ("choice", (("subset", 8, 4), NONE, ("cycle", 5)))
    space = ("decorated", (("a", 2), ("b", 3)), (space, ("tree", 4)))
    space = ("product", (("matching", 4), ("power", 3, space)))
    return ("choice", (NONE, space, ("walk", 4, 0, 0, -2, 2)))


NESTED = {
    "deepest": deepest(),
    "subsets": ("power", 400, ("subset", 8, 4)),
    "choices": ("power", 400, ("choice", (ONE, ("cycle", 4), NONE, ("matching", 2)))),
    "letters": ("decorated", SIXTHS, (("cycle", 5), ("tree", 4), ("matching", 3), ONE, ("walk", 6, 0, 0, 0, 3), ONE)),
    "leaves": ("power", 400, ("product", (("cycle", 3), ("cycle", 3), ONE, ONE, ("cycle", 3)))),
    "trees": ("product", tuple(("tree", n) for n in (400, 399, 398, 20))),
    "below": just_below(),
}


@contextmanager
def at_once(seconds=10):
    """Fails if what stands in it takes much longer than it should."""
    start = perf_counter()
    yield
    taken = perf_counter() - start
    assert taken < seconds, f"took {taken:.1f} seconds"
