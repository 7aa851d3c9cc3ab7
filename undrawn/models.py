"""The models of the parts of a space.

A model has `outcomes(question)`, what can be answered to a question that the part takes, and `learn(question, item)`.
It learns only items that are possible by what it has learned so far.
"""

from undrawn.arrangement_models import ArrangementModel
from undrawn.map_models import ChoiceModel, CycleModel, MatchingModel, PermutationModel, TreeModel
from undrawn.row_models import SubsetModel, WordModel
from undrawn.spaces import size_of
from undrawn.track_models import StringModel, WalkModel


def make_model(part):
    """The model of a part of which nothing is known."""
    make = MAKERS[part[0]]
    return make(part)


def make_subset(part):
    return SubsetModel(part)


def make_word(part):
    return WordModel(part)


def make_arrangement(part):
    return ArrangementModel(part)


def make_walk(part):
    return WalkModel(part)


def make_cycle(part):
    return CycleModel(part)


def make_matching(part):
    return MatchingModel(part)


def make_permutation(part):
    return PermutationModel(part)


def make_tree(part):
    return TreeModel(part)


def make_string(part):
    return StringModel(part)


def make_choice(part):
    return ChoiceModel([size_of(inner) for inner in part[1]])


# Classes themselves cannot stand in a table.
MAKERS = {
    "subset": make_subset,
    "word": make_word,
    "arrangement": make_arrangement,
    "walk": make_walk,
    "cycle": make_cycle,
    "matching": make_matching,
    "permutation": make_permutation,
    "tree": make_tree,
    "string": make_string,
    "choice": make_choice,
    "decorated": make_word,
}
