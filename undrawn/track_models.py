"""What is known of a walk and of a string."""

from undrawn.outcomes import Outcomes, PlainOutcomes
from undrawn.tracks import Track, joint_ways


class WalkModel:
    """The stops of the track are the heights."""

    def __init__(self, part):
        n, self.start, end, low, high = part[1:]
        moves = {}
        for height in range(low, high + 1):
            moves[height] = [(rise, height + rise) for rise in (-1, 1) if low <= height + rise <= high]
        self.track = Track(n, self.start, [end], moves)

    def learn(self, question, item):
        word, time = question[:2]
        if word == "height":
            self.track.fix(time, item)
        elif word == "first_visit":
            self.learn_visit(question, item, list(range(time, self.track.n + 1)))
        elif word == "last_visit":
            self.learn_visit(question, item, list(range(time, -1, -1)))
        else:
            rise, height = self.before_step(word, time, item)
            self.track.fix(item, height)
            self.track.fix(item + 1, height + rise)

    def learn_visit(self, question, item, times):
        """The times at which there could be a visit, in the order in which they are tried."""
        _, time, height = question
        self.track.fix(time, item[0])
        for at in times:
            if (at,) == item[1]:
                self.track.fix(at, height)
                return
            self.track.bar_stop(at, height)

    def before_step(self, word, j, time):
        """The change of height and the height before it, where the j-th step in a direction is made at the time."""
        rise = 1 if word == "up" else -1
        # All other steps before it go the other way.
        return rise, self.start + rise * (j - (time - j))

    def outcomes(self, question):
        word, time = question[:2]
        if word == "height":
            return PlainOutcomes(self.track.stops_at(time))
        if word in ("up", "down"):
            return PlainOutcomes(self.steps(word, time))
        return WalkVisits(self.track, question)

    def steps(self, word, j):
        """Options for the time of the j-th step in a direction."""
        reaching = self.track.ways_to()
        leaving = self.track.ways_from(reaching)
        found = []
        for time in range(self.track.n):
            rise, height = self.before_step(word, j, time)
            weight = reaching[time].get(height, 0) * leaving[time + 1].get(height + rise, 0)
            if weight > 0:
                found.append((time, weight))
        return found


class WalkVisits(Outcomes):
    """The height at a time, and then the time of a visit, if there is one."""

    def __init__(self, track, question):
        self.track = track
        self.word, self.time, self.wanted = question
        # Found once, as there may be options for very many heights.
        self.reaching = track.ways_to()
        self.leaving = track.ways_from(self.reaching)

    def options(self, values):
        if len(values) == 0:
            return joint_ways(self.reaching[self.time], self.leaving[self.time])
        if len(values) == 1:
            if self.word == "first_visit":
                return self.track.first_visits(self.time, values[0], self.wanted, self.leaving)
            return self.track.last_visits(self.time, values[0], self.wanted, self.reaching)
        return None

    def item(self, values):
        return tuple(values)

    def number(self):
        return sum([len(self.options([height])) for height, _ in self.options([])])

    def values_of(self, item):
        # The second value is a tuple itself.
        return list(item) if isinstance(item, tuple) else [item]


class StringModel:
    """The stops of the track are the states, and the labels of its moves the letters."""

    def __init__(self, part):
        (moves, accepting), n = part[1:]
        table = {}
        for state, letter, reached in moves:
            table.setdefault(state, []).append((letter, reached))
        self.letters = sorted(set([move[1] for move in moves]))
        self.states = sorted(set([0] + [move[2] for move in moves]))
        self.track = Track(n, 0, list(accepting), table)

    def learn(self, question, item):
        word, place = question[:2]
        if word == "letter":
            self.keep_letters(place, (item,), True)
        elif word == "letter_in":
            self.keep_letters(place, question[2], item)
        elif word == "state":
            self.track.fix(place, item)
        else:
            for state in self.states:
                if (state in question[2]) != item:
                    self.track.bar_stop(place, state)

    def keep_letters(self, place, letters, kept):
        """Whether the letter at the place is one of these is as `kept` says."""
        for letter in self.letters:
            if (letter in letters) != kept:
                self.track.bar_label(place, letter)

    def outcomes(self, question):
        word, place = question[:2]
        if word in ("letter", "letter_in"):
            pairs = self.track.labels_at(place)
        else:
            pairs = self.track.stops_at(place)
        if word in ("letter", "state"):
            return PlainOutcomes(pairs)
        weights = [sum([weight for item, weight in pairs if (item in question[2]) == kept]) for kept in (False, True)]
        return PlainOutcomes([pair for pair in zip((False, True), weights) if pair[1] > 0])
