"""The text of a space.

To read a text, a value is made of its words without any checks, and wherever there are blanks. It is the space of the
text if it is a space at all and has this very text.
"""

from undrawn.errors import ParseError
from undrawn.limits import DEEPEST
from undrawn.numerals import is_numeral
from undrawn.spaces import is_space
from undrawn.values import flatten


def format_space(space):
    """The text of a space."""
    write = WRITERS[space[0]]
    return " ".join([space[0]] + write(space))


def write_items(value):
    """The words for integers and names in nested tuples, in a list."""
    return [str(item) for item in flatten(value)]


def write_plain(space):
    """For a space that consists of integers and names alone."""
    return write_items(space[1:])


def write_arrangement(space):
    return [write_order(space[1])]


def write_order(order):
    word, rest = order
    if word == "item":
        return rest
    return in_parentheses([word] + [write_order(inner) for inner in rest])


def in_parentheses(words):
    return "(" + " ".join(words) + ")"


def write_string(space):
    (moves, accepting), n = space[1:]
    return [str(n), ":"] + write_items(moves) + [":"] + write_items(accepting)


def write_row(space):
    """For a product and for a choice."""
    return [write_nested(inner) for inner in space[1]]


def write_nested(space):
    return in_parentheses([format_space(space)])


def write_power(space):
    return [str(space[1]), write_nested(space[2])]


def write_decorated(space):
    return [word for pair, inner in zip(space[1], space[2]) for word in write_items(pair) + [write_nested(inner)]]


WRITERS = {
    "subset": write_plain,
    "word": write_plain,
    "arrangement": write_arrangement,
    "walk": write_plain,
    "cycle": write_plain,
    "matching": write_plain,
    "permutation": write_plain,
    "tree": write_plain,
    "string": write_string,
    "product": write_row,
    "choice": write_row,
    "power": write_power,
    "decorated": write_decorated,
}


def parse_space(text):
    """The space with this text, which may be any value."""
    if not isinstance(text, str):
        raise ParseError("the text of a space is a string")
    space = read_space(group_words(text))
    if not is_space(space) or format_space(space) != text:
        raise ParseError("this is not the text of a space")
    return space


def group_words(text):
    """The words of a text in a list, where those in parentheses stand in a list of their own."""
    # The lists that are still open, the outermost first.
    groups = [[]]
    for word in text.replace("(", " ( ").replace(")", " ) ").split():
        if word == "(":
            groups.append([])
        elif word == ")" and len(groups) > 1:
            inner = groups.pop()
            groups[-1].append(inner)
        else:
            groups[-1].append(word)
        # No space has a text of this depth, as orders stand in the innermost spaces only.
        if len(groups) > 2 * DEEPEST:
            raise ParseError("the parentheses are nested too deeply")
    # Where a parenthesis is not closed, the value that is made of the others does not have this text.
    return groups[0]


def read_space(words):
    """The value that a list of words with their groups describes."""
    if len(words) == 0:
        return ()
    kind = words[0]
    # Asked in this order, because a list cannot be looked up.
    if not isinstance(kind, str) or kind not in READERS:
        return ()
    read = READERS[kind]
    return (kind,) + read(words[1:])


def read_items(words):
    """For each word its integer or the word itself, for each group what it describes as a space; in a tuple."""
    return tuple([read_item(word) for word in words])


def read_item(word):
    if isinstance(word, list):
        return read_space(word)
    return int(word) if is_numeral(word) else word


def rows_of(items, width):
    """The items in tuples of this width, in a tuple."""
    return tuple([tuple(items[at:at + width]) for at in range(0, len(items), width)])


def read_word(words):
    return (rows_of(read_items(words), 2),)


def read_arrangement(words):
    return tuple([read_order(word) for word in words])


def read_order(word):
    if isinstance(word, list):
        return tuple(word[:1]) + (tuple([read_order(inner) for inner in word[1:]]),)
    return "item", word


def read_permutation(words):
    return read_items(words[:1]) + (read_items(words[1:]),)


def read_string(words):
    colons = [at for at, word in enumerate(words) if word == ":"]
    if len(colons) != 2:
        return ()
    first, second = colons
    automaton = rows_of(read_items(words[first + 1:second]), 3), read_items(words[second + 1:])
    return (automaton,) + read_items(words[:first])


def read_row(words):
    return (read_items(words),)


def read_decorated(words):
    rows = rows_of(read_items(words), 3)
    return tuple([row[:2] for row in rows]), tuple([item for row in rows for item in row[2:]])


READERS = {
    "subset": read_items,
    "word": read_word,
    "arrangement": read_arrangement,
    "walk": read_items,
    "cycle": read_items,
    "matching": read_items,
    "permutation": read_permutation,
    "tree": read_items,
    "string": read_string,
    "product": read_row,
    "choice": read_row,
    "power": read_items,
    "decorated": read_decorated,
}
