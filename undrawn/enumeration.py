"""The numbering of the objects that match observations."""

from undrawn.completion import ObjectGuide, SeedGuide, complete_part
from undrawn.knowledge import learn_all


def object_at(space, observations, seed):
    """The matching object with this seed, which is less than the number of matching objects."""
    return complete_part(space, (), SeedGuide(learn_all(space, observations), seed))


def seed_of(space, observations, obj):
    """The seed of a matching object."""
    guide = ObjectGuide(learn_all(space, observations), obj)
    complete_part(space, (), guide)
    return guide.seed
