"""Observations, each a query and an answer that some object gives to it."""

from undrawn.inquiries import steps_to
from undrawn.knowledge import learn_all
from undrawn.queries import is_query
from undrawn.values import is_tuple


def is_observation(space, value):
    """Whether any value is an observation of the space."""
    return may_observe(learn_all(space, ()), value)


def may_observe(knowledge, value):
    """Whether any value is an observation that some object gives which fits the knowledge."""
    if not is_tuple(value, 2, 2) or knowledge.count == 0 or not is_query(knowledge.space, value[0]):
        return False
    return steps_to(knowledge.inquire(value[0]), value[1]) is not None
