"""What is known of a track, which goes from stop to stop, one move at each time."""


class Track:
    """A track with n moves from a stop to one of some last stops.

    `moves` has a list of (label, reached stop) pairs for each stop that has moves.
    """

    def __init__(self, n, start, last, moves):
        self.n = n
        self.start = start
        self.last = last
        self.moves = moves
        # The only stop at a time, and stops and labels that cannot be at a time.
        self.fixed = {}
        self.barred_stops = {}
        self.barred_labels = {}

    def fix(self, time, stop):
        self.fixed[time] = stop

    def bar_stop(self, time, stop):
        self.barred_stops[(time, stop)] = True

    def bar_label(self, time, label):
        self.barred_labels[(time, label)] = True

    def may_stop(self, time, stop):
        return self.fixed.get(time, stop) == stop and (time, stop) not in self.barred_stops

    def moves_from(self, time, stop):
        """The possible moves from the stop at the time, in a list."""
        found = []
        for label, reached in self.moves.get(stop, []):
            if (time, label) not in self.barred_labels and self.may_stop(time + 1, reached):
                found.append((label, reached))
        return found

    def step_on(self, time, ways):
        """From the numbers of tracks to the stops at a time to those one move later."""
        later = {}
        for stop, many in ways.items():
            for _, reached in self.moves_from(time, stop):
                later[reached] = later.get(reached, 0) + many
        return later

    def step_back(self, time, stops, later):
        """From the numbers of tracks from the stops one move later on to those from these stops at a time."""
        ways = {}
        for stop in stops:
            many = sum([later.get(reached, 0) for _, reached in self.moves_from(time, stop)])
            if many > 0:
                ways[stop] = many
        return ways

    def ways_to(self):
        """For each time the numbers of tracks from the start to the stops, in a list of dicts."""
        ways = [{self.start: 1} if self.may_stop(0, self.start) else {}]
        for time in range(self.n):
            ways.append(self.step_on(time, ways[time]))
        return ways

    def ways_from(self, reaching):
        """For each time the numbers of tracks from the stops to the end, for stops that `ways_to` has."""
        ways = [{stop: 1 for stop in reaching[self.n] if stop in self.last}]
        for time in reversed(range(self.n)):
            ways.append(self.step_back(time, reaching[time], ways[-1]))
        return list(reversed(ways))

    def stops_at(self, time):
        """Options for the stop at the time."""
        reaching = self.ways_to()
        return joint_ways(reaching[time], self.ways_from(reaching)[time])

    def labels_at(self, time):
        """Options for the label of the move at the time."""
        reaching = self.ways_to()
        leaving = self.ways_from(reaching)[time + 1]
        weights = {}
        for stop, many in reaching[time].items():
            for label, reached in self.moves_from(time, stop):
                weights[label] = weights.get(label, 0) + many * leaving.get(reached, 0)
        return [(label, weights[label]) for label in sorted(weights) if weights[label] > 0]

    def first_visits(self, time, stop, wanted, leaving):
        """Options for the first time from `time` on, where the track is at `stop`, at which it is at the wanted stop.

        A time stands in a tuple, and an empty tuple says that there is none. `leaving` is what `ways_from` returns.
        """
        ways = {stop: 1}
        times = []
        for at in range(time, self.n + 1):
            if wanted in ways:
                times.append(((at,), ways[wanted] * leaving[at].get(wanted, 0)))
            ways = {there: many for there, many in ways.items() if there != wanted}
            if at < self.n:
                ways = self.step_on(at, ways)
        never = sum([many for there, many in ways.items() if there in self.last])
        return [pair for pair in [((), never)] + times if pair[1] > 0]

    def last_visits(self, time, stop, wanted, reaching):
        """As `first_visits`, for the last time up to `time`. `reaching` is what `ways_to` returns."""
        ways = {stop: 1}
        times = []
        for at in reversed(range(time + 1)):
            if wanted in ways:
                times.append(((at,), ways[wanted] * reaching[at].get(wanted, 0)))
            ways = {there: many for there, many in ways.items() if there != wanted}
            if at > 0:
                ways = self.step_back(at - 1, reaching[at - 1], ways)
        never = ways.get(self.start, 0)
        return [pair for pair in [((), never)] + list(reversed(times)) if pair[1] > 0]


def joint_ways(reaching, leaving):
    """Options for the stop at a time, by the numbers of tracks to the stops and of those from them."""
    return [(stop, reaching[stop] * leaving[stop]) for stop in sorted(leaving)]
