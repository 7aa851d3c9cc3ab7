"""What is known of a cycle, a matching, a permutation and a tree."""

from undrawn.arithmetic import count_moved
from undrawn.outcomes import PlainOutcomes, equally, only


class CycleModel:
    """Known steps make chains of seats, and any circle of these chains is a cycle."""

    def __init__(self, part):
        self.n = part[1]
        self.after = {}
        self.before = {}

    def learn(self, question, item):
        word, seat = question
        first, second = (seat, item) if word == "successor" else (item, seat)
        self.after[first] = second
        self.before[second] = first

    def outcomes(self, question):
        word, seat = question
        if word == "successor":
            return self.neighbours(seat, self.after, self.before)
        return self.neighbours(seat, self.before, self.after)

    def neighbours(self, seat, onward, backward):
        if seat in onward:
            return only(onward[seat])
        far_end = seat
        while far_end in backward:
            far_end = backward[far_end]
        # The circle closes with the last step only.
        if len(onward) == self.n - 1:
            return only(far_end)
        return equally([other for other in range(self.n) if other not in backward and other != far_end])


class MatchingModel:
    """Any matching of the other seats goes with the known pairs."""

    def __init__(self, part):
        self.seats = 2 * part[1]
        self.partners = {}

    def learn(self, question, item):
        seat = question[1]
        self.partners[seat] = item
        self.partners[item] = seat

    def outcomes(self, question):
        seat = question[1]
        if seat in self.partners:
            return only(self.partners[seat])
        return equally([other for other in range(self.seats) if other != seat and other not in self.partners])


class PermutationModel:
    """The integers that are not known yet, in the positions that are not known yet."""

    def __init__(self, part):
        self.n, moved = part[1:]
        self.moved = {place: True for place in moved}
        self.images = {}
        self.places = {}

    def learn(self, question, item):
        word, asked = question
        place, image = (asked, item) if word == "image" else (item, asked)
        self.images[place] = image
        self.places[image] = place

    def outcomes(self, question):
        word, asked = question
        known, taken = (self.images, self.places) if word == "image" else (self.places, self.images)
        if asked in known:
            return only(known[asked])
        loose = [item for item in self.moved if item not in self.images and item not in self.places]
        others = [other for other in range(self.n) if other not in taken]
        # Whether the asked one is the place or the image makes no difference to the number of permutations.
        pairs = [(other, [item for item in loose if item not in (asked, other)]) for other in others]
        missing = self.n - len(self.images) - 1
        weights = {many: count_moved(missing, many) for many in sorted(set([len(rest) for _, rest in pairs]))}
        allowed = [(other, weights[len(rest)]) for other, rest in pairs if other != asked or other not in self.moved]
        return PlainOutcomes([pair for pair in allowed if pair[1] > 0])


class TreeModel:
    """Known parents make smaller trees, which are hung up at nodes of each other."""

    def __init__(self, part):
        self.n = part[1]
        self.parents = {}

    def learn(self, question, item):
        self.parents[question[1]] = item

    def outcomes(self, question):
        node = question[1]
        if node in self.parents:
            return only(self.parents[node])
        tops = self.tops()
        rooted = tops.count(0)
        own = tops.count(node)
        # With s nodes in the tree of node 0 and k > 0 other ones, there are s * n ** (k - 1) ways to hang these up.
        weights = {top: rooted for top in tops}
        weights[0] = rooted + own
        return PlainOutcomes([(other, weights[top]) for other, top in enumerate(tops) if top != node])

    def tops(self):
        """For each node the top of the tree in which it is, in a list."""
        tops = {}
        for node in range(self.n):
            trail = [node]
            while trail[-1] not in tops and trail[-1] in self.parents:
                trail.append(self.parents[trail[-1]])
            top = tops.get(trail[-1], trail[-1])
            for passed in trail:
                tops[passed] = top
        return [tops[node] for node in range(self.n)]


class ChoiceModel:
    """Which of the spaces is selected."""

    def __init__(self, sizes):
        self.pairs = [(index, size) for index, size in enumerate(sizes) if size > 0]

    def learn(self, question, item):
        self.pairs = [(item, 1)]

    def outcomes(self, question):
        return PlainOutcomes(self.pairs)
