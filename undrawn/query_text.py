"""The text of a query."""

from undrawn.errors import ParseError
from undrawn.numerals import read_integer, read_natural
from undrawn.values import flatten, is_ascending, is_name


def format_query(query):
    """The text of a query."""
    steps = [write_step(step) for step in query[0]]
    return " ".join(steps + [":"] + [str(item) for item in flatten(query[1:])])


def write_step(step):
    if isinstance(step, tuple):
        letter, occurrence = step
        return f"{letter}.{occurrence}"
    return str(step)


def parse_query(text):
    """The query with this text, which may be any value; no space has to have it."""
    if not isinstance(text, str):
        raise ParseError("the text of a query is a string")
    words = text.split(" ")
    if words.count(":") != 1:
        raise ParseError("a query has one colon, between its steps and its word")
    colon = words.index(":")
    path = tuple([read_step(word) for word in words[:colon]])
    return (path,) + read_question(words[colon + 1:])


def read_step(word):
    if "." not in word:
        return read_natural(word)
    letter, _, occurrence = word.partition(".")
    return read_name(letter), read_natural(occurrence)


def read_question(words):
    """The word of a query and its arguments, in a tuple."""
    if len(words) == 0 or words[0] not in READERS:
        raise ParseError("this is not a word of a query")
    read = READERS[words[0]]
    return (words[0],) + read(words[1:])


def read_name(word):
    if not is_name(word):
        raise ParseError("this is not a name")
    return word


def expect_words(words, many):
    if len(words) != many:
        raise ParseError("the query has too few or too many arguments")


def read_nothing(words):
    expect_words(words, 0)
    return ()


def read_index(words):
    expect_words(words, 1)
    return (read_natural(words[0]),)


def read_locate(words):
    expect_words(words, 1)
    return (read_name(words[0]),)


def read_select(words):
    """For a subset the number of a member, for a word a letter and the number of its occurrence."""
    if len(words) == 1:
        return read_index(words)
    expect_words(words, 2)
    return read_name(words[0]), read_natural(words[1])


def read_visit(words):
    expect_words(words, 2)
    return read_natural(words[0]), read_integer(words[1])


def read_letters(words):
    return read_index(words[:1]) + (in_ascent([read_name(word) for word in words[1:]]),)


def read_states(words):
    return read_index(words[:1]) + (in_ascent([read_natural(word) for word in words[1:]]),)


def in_ascent(items):
    """The items of a list in a tuple."""
    if not is_ascending(items):
        raise ParseError("a sequence does not ascend")
    return tuple(items)


READERS = {
    "contains": read_index,
    "rank": read_index,
    "select": read_select,
    "letter": read_index,
    "prefix": read_index,
    "entry": read_index,
    "locate": read_locate,
    "height": read_index,
    "first_visit": read_visit,
    "last_visit": read_visit,
    "up": read_index,
    "down": read_index,
    "successor": read_index,
    "predecessor": read_index,
    "partner": read_index,
    "image": read_index,
    "preimage": read_index,
    "parent": read_index,
    "state": read_index,
    "letter_in": read_letters,
    "state_in": read_states,
    "selected": read_nothing,
}
