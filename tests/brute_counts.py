"""Counts over all objects of a small space, listed."""

from collections import Counter
from functools import lru_cache
from random import Random

from tests.brute import objects_of
from tests.brute_answers import answer_of, queries_of


@lru_cache(maxsize=None)
def listed(space):
    """The objects, the queries, and for each query the answers of the objects in the same order."""
    objects, queries = objects_of(space), queries_of(space)
    return objects, queries, {query: [answer_of(space, obj, query) for obj in objects] for query in queries}


def matching(space, observations):
    """The numbers of the objects that match."""
    objects, _, answers = listed(space)
    return [k for k in range(len(objects)) if all(answers[query][k] == answer for query, answer in observations)]


def counted(space, observations, query):
    """The answers of the matching objects, ascending, with their counts."""
    answers = listed(space)[2][query]
    return tuple(sorted(Counter(answers[k] for k in matching(space, observations)).items()))


def mixtures(space, many, seed):
    """Tuples of observations, mostly of one object, some of them of several; with a fixed seed always the same."""
    objects, queries, answers = listed(space)
    random = Random(f"{seed} {space}")
    found = [()]
    while objects and queries and len(found) < many:
        k = random.randrange(len(objects))
        picked = [random.choice(queries) for _ in range(random.randint(1, 5))]
        others = [k if random.random() < 0.9 else random.randrange(len(objects)) for _ in picked]
        found.append(tuple((query, answers[query][other]) for query, other in zip(picked, others)))
    return found
