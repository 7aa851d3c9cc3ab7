"""Sequences of queries and retractions."""

from undrawn.counting import count_matching
from undrawn.samplers import Sampler


def run_actions(space, actions, seed):
    """The history of a new sampler of this seed after the actions."""
    sampler = Sampler(space, seed)
    for action in actions:
        sampler.perform(action)
    return sampler.history()


def count_seeds(space, actions, observations):
    """The number of seeds with which exactly these observations remain after the actions.

    Each query splits the seeds into one range per answer, and a retraction puts the ranges of all answers together
    again. So for each history every seed below its bound occurs once, and the actions themselves make no difference.
    """
    return count_matching(space, observations)
