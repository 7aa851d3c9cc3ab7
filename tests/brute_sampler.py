"""A sampler over listed objects, straight from the words of the document."""

from collections import Counter

from tests.brute_answers import questions_of
from tests.brute_counts import listed, matching


class BruteSampler:
    """Keeps its history, seed and log, and lists all objects for each action."""

    def __init__(self, space, seed, observations=()):
        self.space, self.seed, self.observations = space, seed, observations
        self.actions, self.states = [], [(observations, seed)]

    def counts(self, observations, query):
        answers = listed(self.space)[2][query]
        return Counter(answers[k] for k in matching(self.space, observations))

    def bound(self):
        return len(matching(self.space, self.observations))

    def ask(self, query):
        start = 0
        for answer, count in sorted(self.counts(self.observations, query).items()):
            if self.seed < start + count:
                break
            start += count
        self.seed -= start
        self.observations += ((query, answer),)
        self.remember(("ask", query))
        return answer

    def retract(self, index):
        query, removed = self.observations[index]
        self.observations = self.observations[:index] + self.observations[index + 1:]
        counts = self.counts(self.observations, query)
        self.seed += sum(count for answer, count in counts.items() if answer < removed)
        self.remember(("retract", index))

    def remember(self, action):
        self.actions.append(action)
        self.states.append((self.observations, self.seed))

    def rewind(self, length):
        self.actions, self.states = self.actions[:length], self.states[:length + 1]
        self.observations, self.seed = self.states[-1]

    def complete(self):
        """Asks the listed queries that are not determined, and finds the object that is left."""
        copy = BruteSampler(self.space, self.seed, self.observations)
        copy.ask_all((), self.space)
        [k] = matching(self.space, copy.observations)
        return listed(self.space)[0][k]

    def ask_all(self, path, part):
        kind, rest = part[0], part[1:]
        word = LISTED.get(kind)
        for question in questions_of(kind, *rest):
            if question[0] == word and len(self.counts(self.observations, (path,) + question)) > 1:
                self.ask((path,) + question)
        if kind == "choice":
            [answer] = self.counts(self.observations, (path, "selected"))
            self.ask_all(path + answer[1], rest[0][answer[1][0]])
        if kind == "product":
            for index, inner in enumerate(rest[0]):
                self.ask_all(path + (index,), inner)
        if kind == "power":
            for copy in range(rest[0]):
                self.ask_all(path + (copy,), rest[1])
        if kind == "decorated":
            for (letter, count), inner in zip(*rest):
                for j in range(count):
                    self.ask_all(path + ((letter, j),), inner)


LISTED = {
    "subset": "contains",
    "word": "letter",
    "decorated": "letter",
    "string": "letter",
    "arrangement": "entry",
    "walk": "height",
    "cycle": "successor",
    "matching": "partner",
    "permutation": "image",
    "tree": "parent",
    "choice": "selected",
}
