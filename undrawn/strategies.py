"""Strategies, which choose each query by the answers to the ones before."""

from undrawn.answers import answer_to
from undrawn.knowledge import learn_all, learn_in_order
from undrawn.observations import may_answer
from undrawn.queries import is_query
from undrawn.samplers import Sampler
from undrawn.values import is_ascending, is_tuple


def is_strategy(space, value):
    """Whether any value is a strategy for the space."""
    nothing = learn_all(space, ())
    # What is still to be looked at, as a list: calls inside of calls could become too many.
    pending = [value]
    while len(pending) > 0:
        item = pending.pop()
        if item is not None:
            if not has_strategy_form(nothing, item):
                return False
            _, branches, default = item
            pending.extend([strategy for _, strategy in branches] + [default])
    return True


def has_strategy_form(nothing, value):
    """Whether any value is a strategy that asks, whatever stands in the places of its own strategies."""
    if not is_tuple(value, 3, 3):
        return False
    query, branches, _ = value
    return is_query(nothing.space, query) and are_branches(nothing, query, branches)


def are_branches(nothing, query, branches):
    """The same for the branches behind a query."""
    if not isinstance(branches, tuple) or not all([is_tuple(branch, 2, 2) for branch in branches]):
        return False
    answers = [answer for answer, _ in branches]
    # Asked in this order, because only answers to the query can surely be compared.
    return may_answer(nothing, query, answers) and is_ascending(answers)


def run_strategy(space, strategy, seed):
    """The observations that a strategy makes with a new sampler of this seed, in order."""
    sampler = Sampler(space, seed)
    rest = strategy
    while rest is not None:
        rest = next_strategy(rest, sampler.ask(rest[0]))
    return sampler.history()


def next_strategy(strategy, answer):
    """The strategy that follows the answer to the query of this one."""
    _, branches, default = strategy
    for given, rest in branches:
        if given == answer:
            return rest
    return default


def seed_range(space, observations):
    """The first seed with which a new sampler makes the observations in their order, and the number of such seeds."""
    knowledge, first = learn_in_order(space, observations)
    return first, knowledge.count


def seed_range_for(space, strategy, obj):
    """The same for the observations that the strategy makes where the object answers."""
    return seed_range(space, observe(space, strategy, obj))


def observe(space, strategy, obj):
    """The observations that a strategy makes with the object, in order."""
    observations = []
    rest = strategy
    while rest is not None:
        answer = answer_to(space, obj, rest[0])
        observations.append((rest[0], answer))
        rest = next_strategy(rest, answer)
    return tuple(observations)
