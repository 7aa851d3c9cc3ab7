"""What can be answered to one question.

An item may have very many forms, so it is found value by value: for the values so far there are the options for the
next one, ascending, each a pair of a value and its weight. The order of the rows of values is that of the items. The
weights are in the same proportions as the numbers of objects, and none of them is 0.
"""

from undrawn.values import flatten


class Outcomes:
    """The items that answer a question.

    Each class below has `options(values)`, the options for the next value or None if the values are complete,
    `item(values)`, the item with complete values, and `number()`, the number of items, found without listing them if
    they may be many.
    """

    def values_of(self, item):
        """The values of an item; for any other value any values."""
        return flatten(item)


class PlainOutcomes(Outcomes):
    """Items that are found at once."""

    def __init__(self, pairs):
        self.pairs = pairs

    def options(self, values):
        return self.pairs if len(values) == 0 else None

    def item(self, values):
        return values[0]

    def number(self):
        return len(self.pairs)


def only(item):
    """The only item."""
    return PlainOutcomes([(item, 1)])


def equally(items):
    """Each of these ascending items with the same weight."""
    return PlainOutcomes([(item, 1) for item in items])
