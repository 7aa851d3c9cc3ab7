"""What is known of an arrangement."""

from undrawn.arithmetic import convolve
from undrawn.outcomes import Outcomes
from undrawn.rows import Row


class Node:
    """An order in an arrangement.

    In an arrangement of a parallel order, the indices of the orders to which the names belong form a row.
    """

    def __init__(self, order):
        self.word, rest = order
        self.name = None
        self.nodes = []
        if self.word == "item":
            self.name = rest
            self.names = [rest]
        else:
            self.nodes = [Node(inner) for inner in rest]
            self.names = [name for node in self.nodes for name in node.names]
        self.row = Row([len(node.names) for node in self.nodes])

    def first_place(self, index):
        """The first place of the names of an order in a series."""
        return sum([len(node.names) for node in self.nodes[:index]])

    def index_at(self, place):
        """The index of the order in a series to which the name at the place belongs."""
        index = 0
        while self.first_place(index + 1) <= place:
            index = index + 1
        return index

    def index_of(self, name):
        """The index of the order that contains the name."""
        return [name in node.names for node in self.nodes].index(True)


class ArrangementModel:
    """Each parallel order has its own row, and these rows do not depend on each other."""

    def __init__(self, part):
        self.root = Node(part[1])

    def learn(self, question, item):
        word = question[0]
        if word == "entry":
            steps, name = item
            befores = [before for before, _ in steps]
        else:
            name = question[1]
            befores = [before for _, before in reversed(item[0])]
        parallels = [pair for pair in self.way_to(name) if pair[0].word == "parallel"]
        for (node, index), before in zip(parallels, befores):
            node.row.note(before, index)

    def way_to(self, name):
        """The orders that contain the name, outermost first, each with the index of its order that does; in a list."""
        way = []
        node = self.root
        while node.word != "item":
            index = node.index_of(name)
            way.append((node, index))
            node = node.nodes[index]
        return way

    def outcomes(self, question):
        word, asked = question
        if word == "entry":
            return ArrangementEntries(self.root, asked)
        return ArrangementPlaces(self.root, self.way_to(asked))


class ArrangementEntries(Outcomes):
    """For each parallel order, outermost first, the numbers before the name and the index; so the name is known."""

    def __init__(self, root, place):
        self.root = root
        self.place = place

    def descend(self, values):
        """The steps that the values describe, the order to which they lead, the place in it, and the other values."""
        steps = []
        node = self.root
        place = self.place
        rest = values
        while node.word != "item":
            if node.word == "series":
                index = node.index_at(place)
                place = place - node.first_place(index)
            else:
                if len(rest) <= len(node.nodes):
                    return steps, node, place, rest
                before = tuple(rest[:len(node.nodes)])
                index = rest[len(node.nodes)]
                rest = rest[len(node.nodes) + 1:]
                steps.append((before, index))
                place = before[index]
            node = node.nodes[index]
        return steps, node, place, rest

    def options(self, values):
        _, node, place, rest = self.descend(values)
        if node.word == "item":
            return None
        if len(rest) < len(node.nodes):
            return node.row.counts_before(place, rest)
        return node.row.letters_behind(rest)

    def item(self, values):
        steps, node, _, _ = self.descend(values)
        return tuple(steps), node.name

    def number(self):
        return entries_in(self.root)[self.place]


class ArrangementPlaces(Outcomes):
    """For each parallel order, innermost first, the place in it and the numbers before the name; then the place."""

    def __init__(self, root, way):
        self.root = root
        self.way = way

    def options(self, values):
        place = 0
        rest = values
        for node, index in reversed(self.way):
            if node.word == "series":
                place = place + node.first_place(index)
            else:
                if len(rest) == 0:
                    return node.row.places_of(index, place)
                if len(rest) <= len(node.nodes):
                    return node.row.counts_before_occurrence(index, place, rest[0], rest[1:])
                place = rest[0]
                rest = rest[len(node.nodes) + 1:]
        return [(place, 1)] if len(rest) == 0 else None

    def item(self, values):
        steps = []
        rest = values[:-1]
        for node, _ in reversed(self.way):
            if node.word == "parallel":
                steps.append((rest[0], tuple(rest[1:len(node.nodes) + 1])))
                rest = rest[len(node.nodes) + 1:]
        return tuple(steps), values[-1]

    def number(self):
        # For each place of the name in an order, the number of ways to go on from there.
        onward = [1 for _ in self.root.names]
        for node, index in self.way:
            if node.word == "series":
                first = node.first_place(index)
                onward = onward[first:first + len(node.nodes[index].names)]
            else:
                onward = places_in(node, index, onward)
        return onward[0]


def entries_in(node):
    """For each place in the order the number of entries there, in a list."""
    if node.word == "item":
        return [1]
    inner = [entries_in(nested) for nested in node.nodes]
    if node.word == "series":
        return [number for numbers in inner for number in numbers]
    return [number for piece in node.row.pieces() for number in entries_in_piece(piece, inner)]


def entries_in_piece(piece, inner):
    """For each place in the piece of a row; `inner` are the numbers of entries in the nested orders."""
    numbers = [0 for _ in range(piece.first, piece.after)]
    for index, count in enumerate(piece.pool):
        if count > 0:
            own = inner[index][piece.start[index]:piece.end[index]]
            joined = convolve(piece.sums_without(index), own)
            numbers = [number + more for number, more in zip(numbers, joined)]
    return numbers


def places_in(node, index, onward):
    """For each place in a nested order the number of ways to locate it in this parallel order and to go on."""
    found = []
    for piece in node.row.pieces():
        others = piece.sums_without(index)
        for before in range(piece.pool[index]):
            first = piece.first + before
            found.append(sum([ways * more for ways, more in zip(others, onward[first:])]))
    return found
