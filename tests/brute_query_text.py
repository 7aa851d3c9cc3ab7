"""The grammar of the texts of queries, by regular expressions."""

import re

from tests.brute_text import NAME, NUMBER

NATURAL = r"(?:0|[1-9][0-9]*)"
INDEXED = (
    "contains rank select letter prefix entry height up down successor predecessor partner image preimage parent state"
)
FORMS = [
    (f"({INDEXED.replace(' ', '|')}) ({NATURAL})", (str, int)),
    (f"(select) ({NAME}) ({NATURAL})", (str, str, int)),
    (f"(locate) ({NAME})", (str, str)),
    (f"(first_visit|last_visit) ({NATURAL}) ({NUMBER})", (str, int, int)),
    (f"(letter_in) ({NATURAL})((?: {NAME})*)", (str, int, lambda text: tuple(text.split()))),
    (f"(state_in) ({NATURAL})((?: {NATURAL})*)", (str, int, lambda text: tuple(int(word) for word in text.split()))),
    ("(selected)", (str,)),
]


def step_of(word):
    letter, dot, number = word.partition(".")
    return (letter, int(number)) if dot else int(word)


def query_of(text):
    """The query with this text, or None."""
    found = re.fullmatch(f"((?:(?:{NAME}[.])?{NATURAL} )*): (.*)", text, re.S)
    for pattern, kinds in FORMS if found else ():
        question = re.fullmatch(pattern, found[2])
        if question:
            parts = tuple(kind(part) for kind, part in zip(kinds, question.groups()))
            if all(a < b for part in parts if isinstance(part, tuple) for a, b in zip(part, part[1:])):
                return (tuple(step_of(word) for word in found[1].split()),) + parts
    return None
