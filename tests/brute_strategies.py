"""Strategies for small spaces, and what they do, straight from the words of the document."""

from functools import lru_cache
from random import Random

from tests.brute_answers import answer_of
from tests.brute_counts import listed
from tests.brute_sampler import BruteSampler
from undrawn.queries import is_query


@lru_cache(maxsize=None)
def answers_in(space, query):
    """The answers that the objects give to the query, ascending, each once."""
    objects, _, answers = listed(space)
    return sorted(set(answers[query] if query in answers else [answer_of(space, obj, query) for obj in objects]))


def strategies_for(space, many, depth):
    """Some strategies, always the same ones: up to so many queries deep, with and without branches."""
    random = Random(f"strategies {space}")
    queries = listed(space)[1]
    return [grow(space, queries, random, depth) for _ in range(many)] if queries else [None]


def grow(space, queries, random, depth):
    if depth == 0 or random.random() < 0.1:
        return None
    query = random.choice(queries)
    chance = random.choice((0, 0.5, 1))
    branches = [answer for answer in answers_in(space, query) if random.random() < chance][:4]
    inner = [grow(space, queries, random, depth - 1) for _ in branches]
    return query, tuple(zip(branches, inner)), grow(space, queries, random, depth - 1)


def is_brute_strategy(space, value):
    if value is None:
        return True
    if type(value) is not tuple or len(value) != 3 or type(value[1]) is not tuple or not is_query(space, value[0]):
        return False
    query, branches, default = value
    if not all(type(branch) is tuple and len(branch) == 2 for branch in branches):
        return False
    places = {repr(answer): place for place, answer in enumerate(answers_in(space, query))}
    found = [places.get(repr(answer), -1) for answer, _ in branches]
    if -1 in found or found != sorted(set(found)):
        return False
    return all(is_brute_strategy(space, rest) for rest in [rest for _, rest in branches] + [default])


def follow(strategy, answer):
    return dict(strategy[1]).get(answer, strategy[2])


def brute_run(space, strategy, seed):
    sampler = BruteSampler(space, seed)
    while strategy is not None:
        strategy = follow(strategy, sampler.ask(strategy[0]))
    return sampler.observations


def brute_together(space, strategies, turns, seed):
    sampler = BruteSampler(space, seed)
    rests, seen = dict(enumerate(strategies)), {k: () for k in range(len(strategies))}
    for k in turns:
        if rests[k] is not None:
            query = rests[k][0]
            answer = sampler.ask(query)
            seen[k] += ((query, answer),)
            rests[k] = follow(rests[k], answer)
    return tuple(seen.values())


def observed(space, strategy, obj):
    """What the strategy sees if the object answers."""
    seen = ()
    while strategy is not None:
        answer = answer_of(space, obj, strategy[0])
        seen += ((strategy[0], answer),)
        strategy = follow(strategy, answer)
    return seen


def path_of(queries, answers=None, end=None):
    """A strategy that asks the queries one after the other, by its defaults or by branches for the answers."""
    strategy = end
    for k in reversed(range(len(queries))):
        branches = () if answers is None else ((answers[k], strategy),)
        strategy = (queries[k], branches, strategy if answers is None else None)
    return strategy
