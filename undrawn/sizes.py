"""The number of objects and of leaves of one space, from those of its nested spaces."""

from math import comb, factorial

from undrawn.arithmetic import count_moved, multinomial, multiply, raise_to
from undrawn.automata import count_strings
from undrawn.orders import order_size


def joined_size(space, sizes, bound=None):
    """N, where the nested spaces have the sizes of the list.

    With a bound, any number from the bound on may stand for an N that reaches it.
    """
    kind = space[0]
    if kind == "product":
        return multiply(sizes, bound)
    if kind == "choice":
        return sum(sizes)
    if kind == "power":
        return multiply(sizes * space[1], bound)
    if kind == "decorated":
        return multiply([word_size(space)] + repeated(space[1], sizes), bound)
    count = LEAF_SIZES[kind]
    return count(space)


def joined_leaves(space, leaves):
    """The number of leaves, where the nested spaces have those of the list."""
    kind = space[0]
    if kind in ("product", "choice"):
        return sum(leaves)
    if kind == "power":
        return sum(leaves) * space[1]
    if kind == "decorated":
        return sum(repeated(space[1], leaves))
    return 1


def repeated(counts, items):
    """Each item as often as the letter at its place occurs."""
    return [item for pair, item in zip(counts, items) for _ in range(pair[1])]


def subset_size(space):
    n, k = space[1:]
    return comb(n, k)


def word_size(space):
    """For a word, and for the letters of a decorated space."""
    return multinomial([pair[1] for pair in space[1]])


def arrangement_size(space):
    return order_size(space[1])


def walk_size(space):
    n, start, end, low, high = space[1:]
    ways = {start: 1}
    for _ in range(n):
        ways = step_on(ways, low, high)
    return ways.get(end, 0)


def step_on(ways, low, high):
    """From the number of walks that lead to each height to that for walks one step longer."""
    longer = {}
    for height, many in ways.items():
        for reached in (height - 1, height + 1):
            if low <= reached <= high:
                longer[reached] = longer.get(reached, 0) + many
    return longer


def cycle_size(space):
    return factorial(space[1] - 1)


def matching_size(space):
    """The first free seat has an odd number of seats to choose from, each time two less."""
    return multiply(list(range(1, 2 * space[1], 2)))


def permutation_size(space):
    n, moved = space[1:]
    return count_moved(n, len(moved))


def tree_size(space):
    """Cayley's formula for labelled trees, each of them hung up at node 0."""
    n = space[1]
    return raise_to(n, max(n - 2, 0))


def string_size(space):
    automaton, n = space[1:]
    return count_strings(automaton, n)


LEAF_SIZES = {
    "subset": subset_size,
    "word": word_size,
    "arrangement": arrangement_size,
    "walk": walk_size,
    "cycle": cycle_size,
    "matching": matching_size,
    "permutation": permutation_size,
    "tree": tree_size,
    "string": string_size,
}
