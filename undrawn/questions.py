"""The questions that a part of a space takes: a query without its path."""

from undrawn.automata import are_states
from undrawn.orders import names_of
from undrawn.values import is_ascending, is_between, is_integer, is_name


def is_question(part, question):
    """Whether a tuple of any values is a question to the part."""
    kind = part[0]
    if len(question) == 0 or not isinstance(question[0], str) or kind not in CHECKS:
        return False
    check = CHECKS[kind]
    return check(part, question[0], question[1:])


def takes_index(tops, word, arguments):
    """Whether the word is in the table and its only argument an integer from 0 to the one given there."""
    return word in tops and len(arguments) == 1 and is_between(arguments[0], 0, tops[word])


def asks_subset(part, word, arguments):
    n, k = part[1:]
    return takes_index({"contains": n - 1, "rank": n, "select": k - 1}, word, arguments)


def asks_word(part, word, arguments):
    """For a word and for a decorated space."""
    counts = part[1]
    n = sum([pair[1] for pair in counts])
    if word == "select" and len(arguments) == 2:
        letter, occurrence = arguments
        return any([letter == pair[0] and is_between(occurrence, 0, pair[1] - 1) for pair in counts])
    return takes_index({"letter": n - 1, "prefix": n, "entry": n - 1}, word, arguments)


def asks_arrangement(part, word, arguments):
    names = names_of(part[1])
    if word == "locate" and len(arguments) == 1:
        return arguments[0] in names
    return takes_index({"entry": len(names) - 1}, word, arguments)


def asks_walk(part, word, arguments):
    n, start, end = part[1:4]
    if word in ("first_visit", "last_visit") and len(arguments) == 2:
        return is_between(arguments[0], 0, n) and is_integer(arguments[1])
    tops = {"height": n}
    if (n + end - start) & 1 == 0:
        tops["up"] = (n + end - start) // 2 - 1
        tops["down"] = (n - end + start) // 2 - 1
    return takes_index(tops, word, arguments)


def asks_cycle(part, word, arguments):
    return takes_index({"successor": part[1] - 1, "predecessor": part[1] - 1}, word, arguments)


def asks_matching(part, word, arguments):
    return takes_index({"partner": 2 * part[1] - 1}, word, arguments)


def asks_permutation(part, word, arguments):
    return takes_index({"image": part[1] - 1, "preimage": part[1] - 1}, word, arguments)


def asks_tree(part, word, arguments):
    # Node 0 has no parent, so nobody asks for it.
    return takes_index({"parent": part[1] - 1}, word, arguments) and arguments[0] != 0


def asks_string(part, word, arguments):
    n = part[2]
    if word == "letter_in" and len(arguments) == 2:
        return is_between(arguments[0], 0, n - 1) and are_letters(arguments[1])
    if word == "state_in" and len(arguments) == 2:
        return is_between(arguments[0], 0, n) and are_states(arguments[1])
    return takes_index({"letter": n - 1, "state": n}, word, arguments)


def are_letters(value):
    """Whether any value is an ascending tuple of names."""
    return isinstance(value, tuple) and all([is_name(item) for item in value]) and is_ascending(value)


def asks_choice(part, word, arguments):
    return word == "selected" and len(arguments) == 0


CHECKS = {
    "subset": asks_subset,
    "word": asks_word,
    "arrangement": asks_arrangement,
    "walk": asks_walk,
    "cycle": asks_cycle,
    "matching": asks_matching,
    "permutation": asks_permutation,
    "tree": asks_tree,
    "string": asks_string,
    "choice": asks_choice,
    "decorated": asks_word,
}
