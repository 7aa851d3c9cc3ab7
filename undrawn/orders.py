"""Orders, of which arrangements are made."""

from undrawn.arithmetic import multinomial, multiply
from undrawn.limits import DEEPEST, MOST_NESTED, MOST_PLACES
from undrawn.values import is_name, is_tuple


def is_order(value):
    """Whether any value is an order within the limits."""
    if not has_order_form(value, DEEPEST):
        return False
    names = names_of(value)
    return len(names) <= MOST_PLACES and len(set(names)) == len(names)


def has_order_form(value, depth):
    """Whether any value is built as an order, at most `depth` deep."""
    if depth == 0 or not is_tuple(value, 2, 2):
        return False
    word, rest = value
    if word == "item":
        return is_name(rest)
    if word not in ("series", "parallel") or not is_tuple(rest, 2, MOST_NESTED):
        return False
    return all([has_order_form(inner, depth - 1) for inner in rest])


def names_of(order):
    """The names of an order, from left to right."""
    word, rest = order
    if word == "item":
        return [rest]
    return [name for inner in rest for name in names_of(inner)]


def order_size(order):
    """The number of arrangements."""
    word, rest = order
    if word == "item":
        return 1
    size = multiply([order_size(inner) for inner in rest])
    if word == "parallel":
        size = size * multinomial([len(names_of(inner)) for inner in rest])
    return size
