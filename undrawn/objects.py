"""The objects of spaces."""

from undrawn.orders import names_of
from undrawn.values import is_ascending, is_between, is_tuple


def is_object(space, value):
    """Whether any value is an object of the space."""
    check = CHECKS[space[0]]
    return check(space, value)


def is_list_of(value, length, low, high):
    """Whether any value is a tuple of this length with integers from low to high."""
    return is_tuple(value, length, length) and all([is_between(item, low, high) for item in value])


def is_subset_object(space, value):
    n, k = space[1:]
    return is_list_of(value, k, 0, n - 1) and is_ascending(value)


def is_word_object(space, value):
    """As the counts add up to the length, there is no place for anything but these letters."""
    counts = space[1]
    n = sum([pair[1] for pair in counts])
    return is_tuple(value, n, n) and all([value.count(letter) == count for letter, count in counts])


def is_arrangement_object(space, value):
    names = names_of(space[1])
    if not is_tuple(value, len(names), len(names)) or not all([isinstance(item, str) for item in value]):
        return False
    places = {name: at for at, name in enumerate(value)}
    return all([name in places for name in names]) and is_kept(space[1], places)


def is_kept(order, places):
    """Whether names at these places obey the order."""
    word, rest = order
    if word == "item":
        return True
    if not all([is_kept(inner, places) for inner in rest]):
        return False
    if word == "parallel":
        return True
    spans = [[places[name] for name in names_of(inner)] for inner in rest]
    return all([max(before) < min(after) for before, after in zip(spans, spans[1:])])


def is_walk_object(space, value):
    n, start, end, low, high = space[1:]
    if not is_list_of(value, n + 1, low, high) or value[0] != start or value[-1] != end:
        return False
    return all([abs(after - before) == 1 for before, after in zip(value, value[1:])])


def is_cycle_object(space, value):
    n = space[1]
    if not is_list_of(value, n, 0, n - 1):
        return False
    seat = value[0]
    steps = 1
    # A walk that comes back to seat 0 has met no seat twice, so n steps have met them all.
    while seat != 0 and steps < n:
        seat = value[seat]
        steps = steps + 1
    return seat == 0 and steps == n


def is_matching_object(space, value):
    seats = 2 * space[1]
    if not is_list_of(value, seats, 0, seats - 1):
        return False
    return all([partner != seat and value[partner] == seat for seat, partner in enumerate(value)])


def is_permutation_object(space, value):
    n, moved = space[1:]
    if not is_list_of(value, n, 0, n - 1) or len(set(value)) != n:
        return False
    return all([value[place] != place for place in moved])


def is_tree_object(space, value):
    n = space[1]
    if not is_tuple(value, n, n) or value[0] is not None or not is_list_of(value[1:], n - 1, 0, n - 1):
        return False
    rooted = {0: True}
    for node in range(n):
        trail = []
        at = node
        # In a circle of parents the trail would not end.
        while at not in rooted and len(trail) < n:
            trail.append(at)
            at = value[at]
        if at not in rooted:
            return False
        for passed in trail:
            rooted[passed] = True
    return True


def is_string_object(space, value):
    (moves, accepting), n = space[1:]
    if not is_tuple(value, n, n) or not all([isinstance(item, str) for item in value]):
        return False
    table = {(state, letter): reached for state, letter, reached in moves}
    state = 0
    for letter in value:
        state = table.get((state, letter))
    return state in accepting


def is_product_object(space, value):
    spaces = space[1]
    if not is_tuple(value, len(spaces), len(spaces)):
        return False
    return all([is_object(inner, item) for inner, item in zip(spaces, value)])


def is_choice_object(space, value):
    spaces = space[1]
    if not is_tuple(value, 2, 2) or not is_between(value[0], 0, len(spaces) - 1):
        return False
    return is_object(spaces[value[0]], value[1])


def is_power_object(space, value):
    n, inner = space[1:]
    return is_tuple(value, n, n) and all([is_object(inner, item) for item in value])


def is_decorated_object(space, value):
    counts, spaces = space[1:]
    if not isinstance(value, tuple) or not all([is_tuple(item, 2, 2) for item in value]):
        return False
    if not is_word_object(space, tuple([letter for letter, _ in value])):
        return False
    attached = {pair[0]: inner for pair, inner in zip(counts, spaces)}
    return all([is_object(attached[letter], item) for letter, item in value])


CHECKS = {
    "subset": is_subset_object,
    "word": is_word_object,
    "arrangement": is_arrangement_object,
    "walk": is_walk_object,
    "cycle": is_cycle_object,
    "matching": is_matching_object,
    "permutation": is_permutation_object,
    "tree": is_tree_object,
    "string": is_string_object,
    "product": is_product_object,
    "choice": is_choice_object,
    "power": is_power_object,
    "decorated": is_decorated_object,
}
