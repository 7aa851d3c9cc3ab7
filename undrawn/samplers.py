"""Samplers, which answer queries about one hidden object."""

from undrawn.completion import SeedGuide, complete_part
from undrawn.errors import InvalidAction, InvalidObservation, InvalidQuery, InvalidRewind, InvalidSeed
from undrawn.errors import InvalidSpace, NoMatch
from undrawn.inquiries import answer_for, block_of, count_around, steps_to
from undrawn.knowledge import learn_all, learn_known
from undrawn.observations import find_wrong
from undrawn.queries import is_query
from undrawn.spaces import is_space
from undrawn.values import is_between, is_tuple


class Sampler:
    """Answers queries about the object that its space and its seed stand for."""

    def __init__(self, space, seed, observations=()):
        self.knowledge = learn_checked(space, observations)
        if not is_between(seed, 0, self.knowledge.count - 1):
            raise InvalidSeed(self.knowledge.count)
        self.space = space
        self.seed = seed
        self.observations = observations
        self.actions = []
        # The state before the first action and after each action.
        self.states = [self.state()]

    def __len__(self):
        return len(self.observations)

    def __eq__(self, other):
        if not isinstance(other, Sampler):
            return False
        return self.space == other.space and self.observations == other.observations and self.seed == other.seed

    def space_used(self):
        return self.space

    def seed_now(self):
        return self.seed

    def bound_now(self):
        """The number of objects that match the current observations."""
        return self.knowledge.count

    def history(self):
        """The current observations in the order in which they were made."""
        return self.observations

    def ask(self, query):
        """The answer to any value that is a query of the space."""
        if not is_query(self.space, query):
            raise InvalidQuery(query)
        answer, start, count = answer_for(self.knowledge.inquire(query), self.knowledge.count, self.seed)
        self.knowledge.learn(query, answer)
        self.knowledge.count = count
        self.seed = self.seed - start
        self.observations = (*self.observations, (query, answer))
        self.record(("ask", query))
        return answer

    def retract(self, index):
        """Remove one observation; the index may be any value."""
        if not is_between(index, 0, len(self.observations) - 1):
            raise InvalidObservation(index)
        query, answer = self.observations[index]
        remaining = self.observations[:index] + self.observations[index + 1:]
        knowledge = learn_known(self.space, remaining, self.knowledge.count)
        steps = steps_to(knowledge.inquire(query), answer)
        # So the number of all objects that match the rest need not be computed anew.
        knowledge.count = count_around(steps, self.knowledge.count)
        start, _ = block_of(steps, knowledge.count)
        self.knowledge = knowledge
        self.seed = self.seed + start
        self.observations = remaining
        self.record(("retract", index))

    def perform(self, action):
        """Carry out an action, which may be any value."""
        if not is_tuple(action, 2, 2) or action[0] not in ("ask", "retract"):
            raise InvalidAction(action)
        word, value = action
        if word == "ask":
            return self.ask(value)
        return self.retract(value)

    def log(self):
        """The successful actions in their order."""
        return tuple(self.actions)

    def rewind(self, length):
        """Go back to the state after so many actions; the length may be any value."""
        if not is_between(length, 0, len(self.actions)):
            raise InvalidRewind(length)
        self.actions = self.actions[:length]
        self.states = self.states[:length + 1]
        self.observations, self.seed, count = self.states[length]
        self.knowledge = learn_known(self.space, self.observations, count)

    def complete(self):
        """The object that is left if one goes on asking."""
        knowledge = learn_known(self.space, self.observations, self.knowledge.count)
        return complete_part(self.space, (), SeedGuide(knowledge, self.seed))

    def state(self):
        return self.observations, self.seed, self.knowledge.count

    def record(self, action):
        self.actions.append(action)
        self.states.append(self.state())


def learn_checked(space, observations):
    """What the observations say, where both arguments may be any values."""
    if not is_space(space):
        raise InvalidSpace(space)
    index = find_wrong(space, observations)
    if index is not None:
        raise InvalidObservation(index)
    knowledge = learn_all(space, observations)
    if knowledge.count == 0:
        raise NoMatch(observations)
    return knowledge
