"""Counts of the objects that match observations."""

from math import gcd

from undrawn.errors import NoMatch, TooManyAnswers
from undrawn.inquiries import block_of, steps_to
from undrawn.knowledge import learn_all
from undrawn.limits import LIMIT


def count_matching(space, observations):
    """The number of objects that match the observations."""
    return learn_all(space, observations).count


def answer_counts(space, observations, query, *, limit=LIMIT):
    """The answers that matching objects give, ascending, each with the number of matching objects that give it."""
    knowledge = learn_all(space, observations)
    if knowledge.count == 0:
        return ()
    inquiry = knowledge.inquire(query)
    # Asked first, because to list very many answers would take long.
    if inquiry.number() > limit:
        raise TooManyAnswers(limit)
    return tuple(list_answers(inquiry, [], knowledge.count))


def probability(space, observations, query, answer):
    """The fraction of the matching objects that give the answer, in lowest terms."""
    knowledge = learn_all(space, observations)
    if knowledge.count == 0:
        raise NoMatch(observations)
    steps = steps_to(knowledge.inquire(query), answer)
    if steps is None:
        return 0, 1
    _, length = block_of(steps, knowledge.count)
    shared = gcd(length, knowledge.count)
    return length // shared, knowledge.count // shared


def is_determined(space, observations, query):
    """Whether all matching objects give the same answer."""
    knowledge = learn_all(space, observations)
    return knowledge.count == 0 or has_one_answer(knowledge.inquire(query))


def list_answers(inquiry, values, count):
    """The answers that begin with these values, each with its count of `count` in all, in a list."""
    pairs = inquiry.options(values)
    if pairs is None:
        return [(inquiry.answer(values), count)]
    total = sum([pair[1] for pair in pairs])
    nested = [list_answers(inquiry, values + [value], count * weight // total) for value, weight in pairs]
    return [pair for found in nested for pair in found]


def has_one_answer(inquiry):
    """Whether there is only one answer."""
    values = []
    pairs = inquiry.options(values)
    while pairs is not None:
        if len(pairs) > 1:
            return False
        values.append(pairs[0][0])
        pairs = inquiry.options(values)
    return True
