"""What is known of a subset and of a word."""

from undrawn.outcomes import Outcomes, PlainOutcomes
from undrawn.rows import Row


class SubsetModel:
    """A subset is a row of members, with the letter 0, and of other integers, with the letter 1."""

    def __init__(self, part):
        n, k = part[1:]
        self.row = Row((k, n - k))

    def learn(self, question, item):
        word, place = question
        if word == "contains":
            self.row.hold(place, 0 if item else 1)
        elif word == "rank":
            self.row.cut(place, (item, place - item))
        else:
            self.row.note((place, item - place), 0)

    def outcomes(self, question):
        word, place = question
        if word == "contains":
            pairs = self.row.letters_at(place)
            return PlainOutcomes([(letter == 0, weight) for letter, weight in reversed(pairs)])
        if word == "rank":
            return PlainOutcomes(self.row.counts_before(place, ()))
        return PlainOutcomes(self.row.places_of(0, place))


class WordModel:
    """For a word, and for the letters of a decorated space."""

    def __init__(self, part):
        self.letters = [pair[0] for pair in part[1]]
        self.row = Row([pair[1] for pair in part[1]])

    def learn(self, question, item):
        word = question[0]
        if word == "letter":
            self.row.hold(question[1], self.letters.index(item))
        elif word == "prefix":
            self.row.cut(question[1], item)
        elif word == "entry":
            before, letter = item
            self.row.note(before, self.letters.index(letter))
        else:
            _, before = item
            self.row.note(before, self.letters.index(question[1]))

    def outcomes(self, question):
        word = question[0]
        if word == "letter":
            return PlainOutcomes(self.named(self.row.letters_at(question[1])))
        if word == "select":
            return WordPlaces(self, self.letters.index(question[1]), question[2])
        return WordEntries(self, question[1], word == "entry")

    def named(self, pairs):
        """The options for letters instead of their numbers."""
        return [(self.letters[letter], weight) for letter, weight in pairs]


class WordEntries(Outcomes):
    """The numbers of the letters before a place, and in an entry the letter at it, too."""

    def __init__(self, model, place, with_letter):
        self.model = model
        self.place = place
        self.with_letter = with_letter

    def options(self, values):
        row = self.model.row
        if len(values) < len(self.model.letters):
            return row.counts_before(self.place, values)
        if self.with_letter and len(values) == len(self.model.letters):
            return self.model.named(row.letters_behind(values))
        return None

    def item(self, values):
        if self.with_letter:
            return tuple(values[:-1]), values[-1]
        return tuple(values)

    def number(self):
        if self.with_letter:
            return self.model.row.number_of_entries(self.place)
        return self.model.row.number_before(self.place)


class WordPlaces(Outcomes):
    """The place of an occurrence of a letter, and the numbers of the letters before it."""

    def __init__(self, model, letter, occurrence):
        self.model = model
        self.letter = letter
        self.occurrence = occurrence

    def options(self, values):
        row = self.model.row
        if len(values) == 0:
            return row.places_of(self.letter, self.occurrence)
        if len(values) <= len(self.model.letters):
            return row.counts_before_occurrence(self.letter, self.occurrence, values[0], values[1:])
        return None

    def item(self, values):
        return values[0], tuple(values[1:])

    def number(self):
        return self.model.row.number_of_places(self.letter, self.occurrence)
