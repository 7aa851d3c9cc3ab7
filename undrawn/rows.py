"""What is known of a row that contains each of some letters a given number of times.

Letters are numbered from 0. An option is a pair of a value and its weight; the weights of all options of one question
are in the same proportions as the numbers of rows that have these values, and none of them is 0.
"""

from math import comb

from undrawn.arithmetic import bounded_sums


class Row:
    """A row, of which the letters before some places and the letters at some places are known."""

    def __init__(self, counts):
        # The number of each letter before a place, for each place where it is known.
        self.cuts = {0: tuple([0 for _ in counts]), sum(counts): tuple(counts)}
        self.held = {}

    def hold(self, place, letter):
        """This letter stands at the place."""
        self.held[place] = letter

    def cut(self, place, before):
        """So many of each letter stand before the place."""
        self.cuts[place] = tuple(before)

    def note(self, before, letter):
        """So many of each letter stand before the place of this letter."""
        place = sum(before)
        self.cut(place, before)
        self.cut(place + 1, one_more(before, letter))

    def piece(self, first, after):
        """The row between two cuts."""
        held = {place: letter for place, letter in self.held.items() if first <= place < after}
        return Piece(first, after, self.cuts[first], self.cuts[after], held)

    def piece_over(self, place, after):
        """The shortest piece that reaches from the place or before it to `after` or behind it."""
        first = max([cut for cut in self.cuts if cut <= place])
        return self.piece(first, min([cut for cut in self.cuts if cut >= after]))

    def piece_with(self, letter, occurrence):
        """The piece in which this occurrence of the letter stands."""
        cuts = sorted(self.cuts)
        reached = [cut for cut in cuts if self.cuts[cut][letter] <= occurrence]
        # The cuts with at most so many of the letter are the first ones.
        return self.piece(reached[-1], cuts[len(reached)])

    def letters_at(self, place):
        """Options for the letter at the place."""
        return self.piece_over(place, place + 1).letters_at(place)

    def letters_behind(self, before):
        """Options for the letter at a place, where so many of each letter stand before it."""
        place = sum(before)
        piece = self.piece_over(place, place + 1).from_cut(place, before)
        return piece.letters_at(place)

    def counts_before(self, place, before):
        """Options for the number of the next letter before the place, where those of the first letters are given."""
        return self.piece_over(place, place).shares_before(place, before, None, 0)

    def places_of(self, letter, occurrence):
        """Options for the place of this occurrence of the letter."""
        return self.piece_with(letter, occurrence).places_of(letter, occurrence)

    def counts_before_occurrence(self, letter, occurrence, place, before):
        """As `counts_before`, where this occurrence of the letter stands at the place."""
        piece = self.piece_with(letter, occurrence).with_held(place, letter)
        return piece.shares_before(place, before, letter, occurrence)

    def number_before(self, place):
        """The number of possible rows of numbers of the letters before the place."""
        return self.piece_over(place, place).number_before(place)

    def number_of_entries(self, place):
        """The same, where the letter at the place counts, too."""
        piece = self.piece_over(place, place + 1)
        pieces = [piece.with_held(place, letter) for letter, _ in piece.letters_at(place)]
        return sum([held.number_before(place) for held in pieces])

    def number_of_places(self, letter, occurrence):
        """The same for all places at which this occurrence of the letter can stand."""
        return self.piece_with(letter, occurrence).number_of_places(letter, occurrence)

    def pieces(self):
        """The pieces between all cuts, from left to right, in a list."""
        cuts = sorted(self.cuts)
        return [self.piece(first, after) for first, after in zip(cuts, cuts[1:])]


class Piece:
    """A row between two places with known letters before them."""

    def __init__(self, first, after, start, end, held):
        self.first, self.after = first, after
        self.start, self.end = start, end
        self.held = held
        held_letters = list(held.values())
        # The letters that the free places share.
        self.pool = [high - low - held_letters.count(at) for at, (low, high) in enumerate(zip(start, end))]

    def from_cut(self, place, before):
        held = {at: letter for at, letter in self.held.items() if at >= place}
        return Piece(place, self.after, tuple(before), self.end, held)

    def with_held(self, place, letter):
        return Piece(self.first, self.after, self.start, self.end, {**self.held, place: letter})

    def held_before(self, place):
        """The letters at the held places before the place, in a list."""
        return [letter for at, letter in self.held.items() if at < place]

    def free_before(self, place):
        return place - self.first - len(self.held_before(place))

    def letters_at(self, place):
        if place in self.held:
            return [(self.held[place], 1)]
        return [(letter, count) for letter, count in enumerate(self.pool) if count > 0]

    def shares_before(self, place, before, known, occurrence):
        """Options as in `counts_before`; of the known letter, if there is one, `occurrence` stand before the place."""
        held = self.held_before(place)
        base = [low + held.count(letter) for letter, low in enumerate(self.start)]
        left = self.free_before(place)
        right = sum(self.pool) - left
        # The known letter is taken out first, as it leaves less room to all others.
        order = list(range(len(before)))
        if known is not None:
            order = [known] + [letter for letter in order if letter != known]
        for letter in order:
            taken = (occurrence if letter == known else before[letter]) - base[letter]
            left = left - taken
            right = right - (self.pool[letter] - taken)
        coming = len(before)
        if coming == known:
            return [(occurrence, 1)]
        return [(base[coming] + taken, weight) for taken, weight in shares(left, right, self.pool[coming])]

    def places_of(self, letter, occurrence):
        found = []
        free = sum(self.pool)
        wanted = occurrence - self.start[letter]
        left = 0
        for place in range(self.first, self.after):
            at_place = self.held.get(place)
            weight = 0
            if at_place is None:
                weight = choose(left, wanted) * choose(free - left - 1, self.pool[letter] - wanted - 1)
                left = left + 1
            elif at_place == letter:
                weight = choose(left, wanted) * choose(free - left, self.pool[letter] - wanted)
                wanted = wanted - 1
            if weight > 0:
                found.append((place, weight))
        return found

    def number_before(self, place):
        return bounded_sums(self.pool)[self.free_before(place)]

    def number_of_places(self, letter, occurrence):
        others = self.sums_without(letter)
        number = 0
        for place, _ in self.places_of(letter, occurrence):
            held = self.held_before(place).count(letter)
            number = number + others[self.free_before(place) - (occurrence - self.start[letter] - held)]
        return number

    def sums_without(self, letter):
        """For each sum the number of ways to reach it by numbers of all other letters in the pool, in a list."""
        return bounded_sums([count for at, count in enumerate(self.pool) if at != letter])


def one_more(before, letter):
    """The numbers of letters with one more of this letter."""
    return tuple([count + 1 if at == letter else count for at, count in enumerate(before)])


def choose(n, k):
    """The number of ways to choose, which is 0 for numbers that cannot be."""
    return comb(n, k) if 0 <= k <= n else 0


def shares(left, right, count):
    """Options for the number of `count` like letters in `left` of the free places, where `right` are the other ones."""
    low = max(0, count - right)
    weight = comb(left, low) * comb(right, count - low)
    found = []
    for taken in range(low, min(left, count) + 1):
        found.append((taken, weight))
        # Much faster than both numbers of ways anew.
        weight = weight * (left - taken) * (count - taken) // ((taken + 1) * (right - count + taken + 1))
    return found
