"""Spaces and their numbers of objects."""

from undrawn.arithmetic import raise_to
from undrawn.forms import is_well_formed, nested_spaces
from undrawn.limits import DIGITS, LEAVES
from undrawn.sizes import joined_leaves, joined_size


def is_space(value):
    """Whether any value is a space."""
    if not is_well_formed(value):
        return False
    return measure(value, raise_to(10, DIGITS)) is not None


def size_of(space):
    """The number of objects of a space."""
    return joined_size(space, [size_of(inner) for inner in nested_spaces(space)])


def measure(space, bound):
    """The leaves and the size of a well-formed space.

    None if it, or a space nested in it, has too many leaves or `bound` or more objects.
    """
    measures = [measure(inner, bound) for inner in nested_spaces(space)]
    if None in measures:
        return None
    leaves = joined_leaves(space, [pair[0] for pair in measures])
    size = joined_size(space, [pair[1] for pair in measures], bound)
    if leaves > LEAVES or size >= bound:
        return None
    return leaves, size
