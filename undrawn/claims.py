"""Claims about spaces, which hold or do not."""

from undrawn.answers import answer_to
from undrawn.counting import count_matching, probability
from undrawn.enumeration import seed_of
from undrawn.objects import is_object
from undrawn.observations import find_wrong
from undrawn.queries import is_query
from undrawn.spaces import is_space
from undrawn.strategies import seed_range
from undrawn.values import is_same


def claim_holds(value):
    """Whether any value is a claim that holds."""
    if not isinstance(value, tuple) or len(value) < 3:
        return False
    kind, space, observations = value[:3]
    # Asked in this order, because a list or a dict cannot be looked up.
    if not isinstance(kind, str) or kind not in CHECKS:
        return False
    if not is_space(space) or find_wrong(space, observations) is not None:
        return False
    check = CHECKS[kind]
    return check(space, observations, value[3:])


def is_count(space, observations, claimed):
    return is_same(claimed, (count_matching(space, observations),))


def is_probability(space, observations, claimed):
    if len(claimed) != 4 or not is_query(space, claimed[0]) or count_matching(space, observations) == 0:
        return False
    query, answer = claimed[:2]
    return is_same(claimed[2:], probability(space, observations, query, answer))


def is_range(space, observations, claimed):
    return is_same(claimed, seed_range(space, observations))


def is_member(space, observations, claimed):
    return len(claimed) == 1 and is_matching_object(space, observations, claimed[0])


def is_seed(space, observations, claimed):
    if len(claimed) != 2 or not is_matching_object(space, observations, claimed[0]):
        return False
    obj, seed = claimed
    return is_same(seed, seed_of(space, observations, obj))


def is_matching_object(space, observations, value):
    """Whether any value is an object of the space that matches the observations."""
    if not is_object(space, value):
        return False
    return all([answer_to(space, value, query) == answer for query, answer in observations])


CHECKS = {
    "count": is_count,
    "probability": is_probability,
    "range": is_range,
    "member": is_member,
    "seed": is_seed,
}
