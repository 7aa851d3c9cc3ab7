"""The answers to one query.

They are in ascending order, and each of them owns a block of seeds, one for each matching object that gives it.
"""

from undrawn.values import is_same, is_tuple


class Inquiry:
    """The answers that can be given to a query.

    `turns` has a step and the outcomes of the selection for each choice on the path, and `last` has the outcomes at
    its end. The values of an answer are those of its selections and of its item.
    """

    def __init__(self, turns, last):
        self.turns = turns
        self.last = last

    def is_elsewhere(self, values):
        """Whether a space is selected into which the path does not lead."""
        return any([value != turn[0] for value, turn in zip(values, self.turns)])

    def options(self, values):
        """The options for the next value, or None if the values are complete."""
        if self.is_elsewhere(values):
            return None
        if len(values) < len(self.turns):
            _, selection = self.turns[len(values)]
            return selection.options([])
        return self.last.options(values[len(self.turns):])

    def answer(self, values):
        """The answer with these values, which are complete."""
        selections = tuple(values[:len(self.turns)])
        if self.is_elsewhere(values):
            return selections, ()
        return selections, (self.last.item(values[len(self.turns):]),)

    def number(self):
        """The number of answers, without listing them."""
        elsewhere = 0
        for step, selection in self.turns:
            selected = [index for index, _ in selection.options([])]
            elsewhere = elsewhere + len([index for index in selected if index != step])
            if step not in selected:
                return elsewhere
        return elsewhere + self.last.number()

    def values_of(self, answer):
        """The values of an answer; for any other value any values."""
        if not is_tuple(answer, 2, 2) or not isinstance(answer[0], tuple) or not is_tuple(answer[1], 0, 1):
            return []
        return list(answer[0]) + [value for item in answer[1] for value in self.last.values_of(item)]


def pick(pairs, target):
    """The option over the target if the weights lie side by side, with the weight before it and its own."""
    before = 0
    for value, weight in pairs:
        if target < before + weight:
            return value, before, weight
        before = before + weight
    return None


def answer_for(inquiry, count, seed):
    """The answer that owns the seed, with its first seed and the number of its seeds, of `count` in all."""
    values = []
    start = 0
    pairs = inquiry.options(values)
    while pairs is not None:
        total = sum([pair[1] for pair in pairs])
        value, before, weight = pick(pairs, (seed - start) * total // count)
        values.append(value)
        start = start + count * before // total
        count = count * weight // total
        pairs = inquiry.options(values)
    return inquiry.answer(values), start, count


def steps_to(inquiry, answer):
    """The way to an answer, any value: for each of its values a triple of weights.

    They are the weight before it, its own, and the weight of all its options. None if no object gives the answer.
    """
    wanted = inquiry.values_of(answer)
    values = []
    steps = []
    pairs = inquiry.options(values)
    while pairs is not None:
        place = place_in(pairs, wanted[len(values):])
        if place is None:
            return None
        weights = [pair[1] for pair in pairs]
        steps.append((sum(weights[:place]), weights[place], sum(weights)))
        values.append(pairs[place][0])
        pairs = inquiry.options(values)
    return steps if is_same(inquiry.answer(values), answer) else None


def place_in(pairs, wanted):
    """The index of the option for the first one of the wanted values, or None."""
    places = [at for at, pair in enumerate(pairs) for value in wanted[:1] if is_same(pair[0], value)]
    return places[0] if len(places) > 0 else None


def block_of(steps, count):
    """The first seed of an answer and the number of its seeds, of `count` in all."""
    start = 0
    for before, weight, total in steps:
        start = start + count * before // total
        count = count * weight // total
    return start, count


def count_around(steps, length):
    """The number of all seeds if an answer has `length` of them."""
    for _, weight, total in reversed(steps):
        length = length * total // weight
    return length
