"""What observations say about the object of a space."""

from undrawn.inquiries import Inquiry, block_of, steps_to
from undrawn.models import make_model
from undrawn.parts import parts_along
from undrawn.spaces import size_of


class Knowledge:
    """Observations that do not contradict each other, with the number of the objects that match them.

    Once it is known which spaces are selected, the objects of the parts do not depend on each other, and each
    observation with a path through a choice tells its selection. So each part has a model of its own.
    """

    def __init__(self, space, count):
        self.space = space
        self.count = count
        self.models = {}

    def inquire(self, query):
        """The answers that matching objects give to the query, if any object matches."""
        along = parts_along(self.space, query[0])
        turns = []
        for (path, part), step in zip(along, query[0]):
            if part[0] == "choice":
                turns.append((step, self.model_of(path, part).outcomes(("selected",))))
        path, part = along[-1]
        return Inquiry(turns, self.model_of(path, part).outcomes(query[1:]))

    def learn(self, query, answer):
        """Learn an observation that matching objects give; the number of those is left to the caller."""
        selections, result = answer
        along = parts_along(self.space, query[0])
        choices = [(path, part) for path, part in along[:-1] if part[0] == "choice"]
        for (path, part), selection in zip(choices, selections):
            self.model_of(path, part).learn(("selected",), selection)
        if len(result) > 0:
            path, part = along[-1]
            self.model_of(path, part).learn(query[1:], result[0])

    def model_of(self, path, part):
        """The model of the part at the path."""
        if path not in self.models:
            self.models[path] = make_model(part)
        return self.models[path]


def learn_all(space, observations):
    """What the observations say. If they contradict each other, the count is 0 and the rest is without meaning."""
    knowledge, _ = learn_in_order(space, observations)
    return knowledge


def learn_in_order(space, observations):
    """As `learn_all`, and the first seed with which a new sampler makes the observations in their order."""
    knowledge = Knowledge(space, size_of(space))
    first = 0
    for query, answer in observations:
        steps = steps_to(knowledge.inquire(query), answer) if knowledge.count > 0 else None
        if steps is None:
            knowledge.count = 0
            return knowledge, 0
        start, knowledge.count = block_of(steps, knowledge.count)
        first = first + start
        knowledge.learn(query, answer)
    return knowledge, first


def learn_known(space, observations, count):
    """As `learn_all`, where it is known that so many objects match, which is not 0."""
    knowledge = Knowledge(space, count)
    for query, answer in observations:
        knowledge.learn(query, answer)
    return knowledge
