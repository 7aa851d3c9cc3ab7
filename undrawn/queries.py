"""Queries, each a path to a part of a space and a question to it."""

from undrawn.parts import part_at
from undrawn.questions import is_question


def is_query(space, value):
    """Whether any value is a query of the space."""
    if not isinstance(value, tuple) or len(value) == 0:
        return False
    part = part_at(space, value[0])
    return part is not None and is_question(part, value[1:])
