"""Whether a value is built as a space, apart from its leaves and its number of objects."""

from undrawn.automata import is_automaton
from undrawn.limits import DEEPEST, HIGHEST, MOST_LETTERS, MOST_NESTED, MOST_PAIRS, MOST_PARTS
from undrawn.limits import MOST_PLACES, MOST_STEPS
from undrawn.orders import is_order
from undrawn.values import is_ascending, is_between, is_name, is_tuple


def is_well_formed(value):
    """Whether any value is a space but for the limits of leaves and of N."""
    level = [value]
    parts = 0
    for _ in range(DEEPEST):
        parts = parts + len(level)
        # Counted before the parts are looked at, so that a wide value takes no time.
        if parts > MOST_PARTS or not all([is_part(part) for part in level]):
            return False
        level = [inner for part in level for inner in nested_spaces(part)]
    return len(level) == 0


def nested_spaces(space):
    """The spaces that stand directly in a space."""
    kind = space[0]
    if kind in ("product", "choice"):
        return space[1]
    if kind == "power":
        return (space[2],)
    if kind == "decorated":
        return space[2]
    return ()


def is_part(value):
    """Whether any value is a space, whatever the nested spaces in it are."""
    if not isinstance(value, tuple) or len(value) == 0:
        return False
    kind = value[0]
    # Asked in this order, because a list or a dict cannot be looked up.
    if not isinstance(kind, str) or kind not in LENGTHS or len(value) != LENGTHS[kind]:
        return False
    check = CHECKS[kind]
    return check(value)


def is_subset(space):
    n, k = space[1:]
    return is_between(n, 0, MOST_PLACES) and is_between(k, 0, n)


def is_word(space):
    return are_counts(space[1])


def are_counts(counts):
    """Whether any value is the counts of a word."""
    if not is_tuple(counts, 1, MOST_LETTERS) or not all([is_count(pair) for pair in counts]):
        return False
    if sum([pair[1] for pair in counts]) > MOST_PLACES:
        return False
    # That the letters ascend also says that they are distinct.
    return is_ascending([pair[0] for pair in counts])


def is_count(pair):
    """Whether any value is a letter with its count."""
    return is_tuple(pair, 2, 2) and is_name(pair[0]) and is_between(pair[1], 1, MOST_PLACES)


def is_arrangement(space):
    return is_order(space[1])


def is_walk(space):
    n, start, end, low, high = space[1:]
    if not all([is_between(height, -HIGHEST, HIGHEST) for height in space[2:]]):
        return False
    return is_between(n, 0, MOST_STEPS) and low <= start <= high and low <= end <= high


def is_cycle(space):
    return is_between(space[1], 1, MOST_PLACES)


def is_matching(space):
    return is_between(space[1], 0, MOST_PAIRS)


def is_permutation(space):
    n, moved = space[1:]
    if not is_between(n, 0, MOST_STEPS) or not is_tuple(moved, 0, n):
        return False
    return all([is_between(place, 0, n - 1) for place in moved]) and is_ascending(moved)


def is_tree(space):
    return is_between(space[1], 1, MOST_PLACES)


def is_string(space):
    automaton, n = space[1:]
    return is_between(n, 0, MOST_STEPS) and is_automaton(automaton)


def is_row(space):
    """For a product and for a choice."""
    return is_tuple(space[1], 1, MOST_NESTED)


def is_power(space):
    return is_between(space[1], 0, MOST_PLACES)


def is_decorated(space):
    counts, spaces = space[1:]
    return are_counts(counts) and is_tuple(spaces, len(counts), len(counts))


LENGTHS = {
    "subset": 3,
    "word": 2,
    "arrangement": 2,
    "walk": 6,
    "cycle": 2,
    "matching": 2,
    "permutation": 3,
    "tree": 2,
    "string": 3,
    "product": 2,
    "choice": 2,
    "power": 3,
    "decorated": 3,
}

CHECKS = {
    "subset": is_subset,
    "word": is_word,
    "arrangement": is_arrangement,
    "walk": is_walk,
    "cycle": is_cycle,
    "matching": is_matching,
    "permutation": is_permutation,
    "tree": is_tree,
    "string": is_string,
    "product": is_row,
    "choice": is_row,
    "power": is_power,
    "decorated": is_decorated,
}
