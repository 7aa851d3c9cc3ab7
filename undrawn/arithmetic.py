"""Products of many integers."""

from math import comb


def multiply(factors, bound=None):
    """The product of a list of integers from 0 on.

    With a bound, any number from the bound on may stand for a product that reaches it.
    """
    if 0 in factors:
        return 0
    result = 1
    for factor in factors:
        # A product far beyond the bound would take long to compute.
        if bound is not None and result >= bound:
            return result
        result = result * factor
    return result


def raise_to(base, exponent):
    """The power by repeated squaring, for an exponent from 0 on."""
    result = 1
    square = base
    rest = exponent
    while rest > 0:
        if rest & 1 == 1:
            result = result * square
        square = square * square
        rest = rest // 2
    return result


def multinomial(counts):
    """The number of ways to merge sequences of these lengths into one."""
    ways = 1
    total = 0
    for count in counts:
        total = total + count
        ways = ways * comb(total, count)
    return ways
