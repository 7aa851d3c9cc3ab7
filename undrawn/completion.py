"""The list of queries that determine an object.

A guide answers them in their order: its method `item(query)` returns the item of the answer.
"""

from undrawn.answers import answer_to
from undrawn.inquiries import answer_for, block_of, steps_to
from undrawn.orders import names_of


class SeedGuide:
    """Answers as a sampler with this knowledge and this seed does."""

    def __init__(self, knowledge, seed):
        self.knowledge = knowledge
        self.seed = seed

    def item(self, query):
        inquiry = self.knowledge.inquire(query)
        answer, start, self.knowledge.count = answer_for(inquiry, self.knowledge.count, self.seed)
        self.seed = self.seed - start
        self.knowledge.learn(query, answer)
        return answer[1][0]


class ObjectGuide:
    """Answers as the object does, which fits the knowledge.

    `seed` is the number of smaller seeds that have been passed by.
    """

    def __init__(self, knowledge, obj):
        self.knowledge = knowledge
        self.obj = obj
        self.seed = 0

    def item(self, query):
        answer = answer_to(self.knowledge.space, self.obj, query)
        steps = steps_to(self.knowledge.inquire(query), answer)
        start, self.knowledge.count = block_of(steps, self.knowledge.count)
        self.seed = self.seed + start
        self.knowledge.learn(query, answer)
        return answer[1][0]


def complete_part(part, path, guide):
    """The object of the part at the path, as the guide tells."""
    kind = part[0]
    if kind == "product":
        return tuple([complete_part(inner, path + (index,), guide) for index, inner in enumerate(part[1])])
    if kind == "power":
        return tuple([complete_part(part[2], path + (copy,), guide) for copy in range(part[1])])
    if kind == "choice":
        selected = guide.item((path, "selected"))
        return selected, complete_part(part[1][selected], path + (selected,), guide)
    if kind == "decorated":
        return complete_decorated(part, path, guide)
    return complete_leaf(part, path, guide)


def complete_decorated(part, path, guide):
    letters = list_items(part, path, guide)
    attached = {}
    for pair, inner in zip(part[1], part[2]):
        letter, count = pair
        attached[letter] = [complete_part(inner, path + ((letter, at),), guide) for at in range(count)]
    return tuple([(letter, attached[letter][letters[:place].count(letter)]) for place, letter in enumerate(letters)])


def complete_leaf(part, path, guide):
    items = list_items(part, path, guide)
    kind = part[0]
    if kind == "subset":
        return tuple([member for member, is_in in enumerate(items) if is_in])
    if kind == "arrangement":
        return tuple([name for _, name in items])
    if kind == "tree":
        return (None, *items)
    return tuple(items)


def list_items(part, path, guide):
    """The items that answer the listed query for each valid index, in a list."""
    word = WORDS[part[0]]
    # Node 0 has no parent.
    first = 1 if word == "parent" else 0
    return [guide.item((path, word, index)) for index in range(first, count_places(part))]


def count_places(part):
    """The number of the integers from 0 on with which the listed query can be asked."""
    kind = part[0]
    if kind in ("word", "decorated"):
        return sum([pair[1] for pair in part[1]])
    if kind == "arrangement":
        return len(names_of(part[1]))
    if kind == "walk":
        return part[1] + 1
    if kind == "matching":
        return 2 * part[1]
    if kind == "string":
        return part[2]
    return part[1]


WORDS = {
    "subset": "contains",
    "word": "letter",
    "arrangement": "entry",
    "walk": "height",
    "cycle": "successor",
    "matching": "partner",
    "permutation": "image",
    "tree": "parent",
    "string": "letter",
    "decorated": "letter",
}
