"""The grammar of the texts, by regular expressions, and texts with one thing changed."""

import re

from undrawn.spaces import is_space

NUMBER, NAME = r"(?:0|-?[1-9][0-9]*)", r"[a-z]{1,6}"


def numbers(text):
    return tuple(int(word) for word in text.split())


def split_groups(text):
    """The words of a text with single spaces, each group with its parentheses as one; None for any other text."""
    found, depth = [""], 0
    for letter in text:
        depth += {"(": 1, ")": -1}.get(letter, 0)
        if depth < 0:
            return None
        if letter == " " and depth == 0:
            found.append("")
        else:
            found[-1] += letter
    good = depth == 0 and all(re.fullmatch(r"[^() ]+|\(.*\)", word, re.S) for word in found)
    return found if good and all(not word.startswith("(") or is_one_group(word) for word in found) else None


def is_one_group(word):
    depths = [word[:k].count("(") - word[:k].count(")") for k in range(1, len(word))]
    return 0 not in depths


def order_of(word):
    if re.fullmatch(NAME, word):
        return "item", word
    groups = split_groups(word[1:-1]) if word.startswith("(") else None
    if groups is None or groups[0] not in ("series", "parallel"):
        return None
    return groups[0], tuple(order_of(inner) for inner in groups[1:])


def nested(word):
    return form_of(word[1:-1]) if word.startswith("(") else None


def pairs(words):
    return tuple((letter, int(count)) for letter, count in zip(words[::2], words[1::2]))


def string_form(text):
    move = f"{NUMBER} {NAME} {NUMBER}"
    found = re.fullmatch(f"string ({NUMBER}) :((?: {move})*) :((?: {NUMBER})*)", text)
    if not found:
        return None
    n, moves, accepting = found.groups()
    rows = re.findall(f"({NUMBER}) ({NAME}) ({NUMBER})", moves)
    return "string", (tuple((int(a), letter, int(b)) for a, letter, b in rows), numbers(accepting)), int(n)


def form_of(text):
    """The space with this text, or something else."""
    if re.fullmatch(f"(?:subset|walk|cycle|matching|tree)(?: {NUMBER})+", text):
        return (text.split()[0],) + numbers(text.partition(" ")[2])
    if re.fullmatch(f"word(?: {NAME} {NUMBER})+", text):
        return "word", pairs(text.split()[1:])
    if re.fullmatch(f"permutation(?: {NUMBER})+", text):
        n, *moved = numbers(text.partition(" ")[2])
        return "permutation", n, tuple(moved)
    if text.startswith("string "):
        return string_form(text)
    return nested_form(split_groups(text) or [""])


def nested_form(words):
    kind, rest = words[0], words[1:]
    if kind == "arrangement" and len(rest) == 1:
        return kind, order_of(rest[0])
    if kind in ("product", "choice"):
        return kind, tuple(nested(word) for word in rest)
    if kind == "power" and len(rest) == 2 and re.fullmatch(NUMBER, rest[0]):
        return kind, int(rest[0]), nested(rest[1])
    if kind == "decorated" and len(rest) % 3 == 0 and all(re.fullmatch(NUMBER, word) for word in rest[1::3]):
        letters = pairs([word for at in range(0, len(rest), 3) for word in rest[at:at + 2]])
        return kind, letters, tuple(nested(word) for word in rest[2::3])
    return None


def space_of(text):
    """The space with this text, or None."""
    space = form_of(text)
    return space if is_space(space) else None


def texts_near(text, letters):
    """The text with one thing changed: a character less, more or another one, or a word less, more or moved."""
    found = set()
    for at in range(len(text) + 1):
        found |= {text[:at] + text[at + 1:], text[:at] + text[at:at + 1] * 2 + text[at + 1:]}
        for letter in letters:
            found |= {text[:at] + letter + text[at:], text[:at] + letter + text[at + 1:]}
    words = text.split(" ")
    for at in range(len(words)):
        found.add(" ".join(words[:at] + words[at + 1:]))
        found.add(" ".join(words[:at] + words[at:at + 1] + words[at:]))
        found.add(" ".join(words[:at] + words[at + 1:at + 2] + words[at:at + 1] + words[at + 2:]))
        found |= {" ".join(words[:at] + [other] + words[at + 1:]) for other in ("0", "1", "-1", "00", "01", "+1", "a", "(a)", ":")}
    return sorted(found | {text.upper(), text.title(), f" {text}", f"{text} ", f"{text}\n", f"\n{text}", f"({text})", ""} - {text})
