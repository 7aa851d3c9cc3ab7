"""Decimal integers in texts."""

from undrawn.errors import ParseError


def is_natural(word):
    """Whether a string is an integer from 0 on, without a sign and without leading zeros."""
    if word[:1] in ("", "0"):
        return word == "0"
    return all(["0" <= digit <= "9" for digit in word])


def is_numeral(word):
    """The same for any integer, where a negative one has a sign."""
    if word[:1] == "-":
        return is_natural(word[1:]) and word != "-0"
    return is_natural(word)


def read_natural(word):
    """The integer from 0 on that a string stands for."""
    if not is_natural(word):
        raise ParseError("this is not an integer from 0 on")
    return int(word)


def read_integer(word):
    """The integer that a string stands for."""
    if not is_numeral(word):
        raise ParseError("this is not an integer")
    return int(word)
