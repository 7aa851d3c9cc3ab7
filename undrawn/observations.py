"""Observations, each a query and an answer that some object gives to it."""

from undrawn.inquiries import steps_to
from undrawn.knowledge import learn_all
from undrawn.queries import is_query
from undrawn.values import is_tuple


def is_observation(space, value):
    """Whether any value is an observation of the space."""
    return may_observe(learn_all(space, ()), value)


def find_wrong(space, value):
    """The index of the first item of any value that is not an observation: -1 if it is no tuple, None if all are."""
    if not isinstance(value, tuple):
        return -1
    nothing = learn_all(space, ())
    for index, item in enumerate(value):
        if not may_observe(nothing, item):
            return index
    return None


def may_observe(knowledge, value):
    """Whether any value is an observation that some object gives which fits the knowledge."""
    if not is_tuple(value, 2, 2) or not is_query(knowledge.space, value[0]):
        return False
    return may_answer(knowledge, value[0], [value[1]])


def may_answer(knowledge, query, answers):
    """Whether each of the answers, any values, is given by some object which fits the knowledge."""
    if len(answers) == 0 or knowledge.count == 0:
        return len(answers) == 0
    inquiry = knowledge.inquire(query)
    return all([steps_to(inquiry, answer) is not None for answer in answers])
