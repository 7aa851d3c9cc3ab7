"""What the kinds of values have in common."""

from undrawn.limits import LONGEST_NAME


def is_integer(value):
    """Python counts booleans among the integers, the document does not."""
    return isinstance(value, int) and not isinstance(value, bool)


def is_between(value, low, high):
    """Whether any value is an integer from low to high."""
    return is_integer(value) and low <= value <= high


def is_name(value):
    """Whether any value is a name."""
    if not isinstance(value, str) or not 1 <= len(value) <= LONGEST_NAME:
        return False
    return all(["a" <= letter <= "z" for letter in value])


def is_tuple(value, least, most):
    """Whether any value is a tuple with at least `least` and at most `most` items."""
    return isinstance(value, tuple) and least <= len(value) <= most


def is_ascending(items):
    """Whether items that can be compared ascend strictly."""
    return all([before < after for before, after in zip(items, items[1:])])


def is_same(one, other):
    """Whether two values are equal and of the same kinds, at any depth of tuples."""
    if isinstance(one, tuple) and isinstance(other, tuple):
        return len(one) == len(other) and all([is_same(a, b) for a, b in zip(one, other)])
    # Python takes True and 1 for equal.
    return isinstance(one, bool) == isinstance(other, bool) and one == other


def flatten(value):
    """The items of nested tuples from left to right, in a list."""
    if not isinstance(value, tuple):
        return [value]
    return [item for part in value for item in flatten(part)]
