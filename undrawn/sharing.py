"""Samplers that several users query in turns."""

from undrawn.counting import count_matching, probability
from undrawn.errors import InvalidUsers, UnknownUser
from undrawn.limits import MOST_USERS
from undrawn.samplers import Sampler
from undrawn.strategies import next_strategy
from undrawn.values import is_ascending, is_name, is_tuple


class SharedSampler:
    """One sampler for several users, each of whom sees only its own answers."""

    def __init__(self, space, seed, users):
        self.common = Sampler(space, seed)
        if not are_users(users):
            raise InvalidUsers(users)
        self.first_seed = seed
        self.users = users
        self.histories = {user: () for user in users}

    def ask(self, user, query):
        """The common sampler's answer; both arguments may be any values."""
        history = self.seen(user)
        answer = self.common.ask(query)
        self.histories[user] = (*history, (query, answer))
        return answer

    def seen(self, user):
        """The observations of a user, any value, in order."""
        # Asked by comparing, because a list or a dict cannot be looked up.
        if user not in self.users:
            raise UnknownUser(user)
        return self.histories[user]

    def bound_for(self, user):
        """The number of objects that match the observations of a user, any value."""
        return count_matching(self.common.space_used(), self.seen(user))

    def chance(self, user, query, answer):
        """The probability of an answer for all that a user knows; the user and the answer may be any values."""
        return probability(self.common.space_used(), self.seen(user), query, answer)

    def sampler(self):
        """An independent sampler with all queries asked in their order."""
        copied = Sampler(self.common.space_used(), self.first_seed)
        for action in self.common.log():
            copied.perform(action)
        return copied


def are_users(value):
    """Whether any value is an ascending tuple of one to six names."""
    return is_tuple(value, 1, MOST_USERS) and all([is_name(user) for user in value]) and is_ascending(value)


def run_together(space, strategies, turns, seed):
    """The observations of each strategy, where they take turns with one new sampler of this seed."""
    sampler = Sampler(space, seed)
    rests = list(strategies)
    histories = [() for _ in strategies]
    for index in turns:
        rest = rests[index]
        if rest is not None:
            answer = sampler.ask(rest[0])
            histories[index] = (*histories[index], (rest[0], answer))
            rests[index] = next_strategy(rest, answer)
    return tuple(histories)
