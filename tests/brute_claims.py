"""Claims about small spaces, by listing objects and trying all seeds."""

from fractions import Fraction

from tests.brute import objects_of
from tests.brute_answers import answer_of
from undrawn.enumeration import object_at
from undrawn.observations import is_observation
from undrawn.queries import is_query
from undrawn.samplers import Sampler
from undrawn.spaces import is_space, size_of


def same(one, other):
    return repr(one) == repr(other)


def matching_objects(space, observations):
    return [obj for obj in objects_of(space) if all(answer_of(space, obj, query) == answer for query, answer in observations)]


def brute_holds(value):
    if type(value) is not tuple or len(value) < 3 or type(value[0]) is not str or value[0] not in CHECKS:
        return False
    _, space, observations, *rest = value
    if not is_space(space) or type(observations) is not tuple:
        return False
    if not all(is_observation(space, item) for item in observations) or len(rest) != LENGTHS[value[0]]:
        return False
    return CHECKS[value[0]](space, observations, *rest)


def count(space, observations, claimed):
    return same(claimed, len(matching_objects(space, observations)))


def probability(space, observations, query, answer, numerator, denominator):
    found = matching_objects(space, observations)
    if not found or not is_query(space, query):
        return False
    given = [obj for obj in found if same(answer_of(space, obj, query), answer)]
    wanted = Fraction(len(given), len(found))
    return same((numerator, denominator), (wanted.numerator, wanted.denominator))


def seed_range(space, observations, first, length):
    seeds = []
    for seed in range(size_of(space)):
        sampler = Sampler(space, seed)
        if all(sampler.ask(query) == answer for query, answer in observations):
            seeds.append(seed)
    return same((first, length), (seeds[0] if seeds else 0, len(seeds)))


def member(space, observations, obj):
    return repr(obj) in {repr(found) for found in matching_objects(space, observations)}


def seed_claim(space, observations, obj, seed):
    if not member(space, observations, obj):
        return False
    [wanted] = [k for k in range(len(matching_objects(space, observations))) if same(object_at(space, observations, k), obj)]
    return same(seed, wanted)


CHECKS = {"count": count, "probability": probability, "range": seed_range, "member": member, "seed": seed_claim}
LENGTHS = {"count": 1, "probability": 4, "range": 2, "member": 1, "seed": 2}
