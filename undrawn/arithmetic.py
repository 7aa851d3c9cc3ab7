"""Products and other numbers of ways."""

from math import comb, factorial


def multiply(factors, bound=None):
    """The product of a list of integers from 0 on.

    With a bound, any number from the bound on may stand for a product that reaches it.
    """
    if 0 in factors:
        return 0
    result = 1
    for factor in factors:
        # A product far beyond the bound would take long to compute.
        if bound is not None and result >= bound:
            return result
        result = result * factor
    return result


def raise_to(base, exponent):
    """The power by repeated squaring, for an exponent from 0 on."""
    result = 1
    square = base
    rest = exponent
    while rest > 0:
        if rest & 1 == 1:
            result = result * square
        square = square * square
        rest = rest // 2
    return result


def multinomial(counts):
    """The number of ways to merge sequences of these lengths into one."""
    ways = 1
    total = 0
    for count in counts:
        total = total + count
        ways = ways * comb(total, count)
    return ways


def count_moved(n, moved):
    """The number of permutations of n integers that keep none of so many of them in its place.

    By inclusion and exclusion of the integers that are kept.
    """
    total = 0
    sign = 1
    for kept in range(moved + 1):
        total = total + sign * comb(moved, kept) * factorial(n - kept)
        sign = -sign
    return total


def bounded_sums(bounds):
    """For each sum the number of ways to reach it by one integer from 0 to each of the bounds, in a list."""
    ways = [1]
    for bound in bounds:
        ways = convolve(ways, [1 for _ in range(bound + 1)])
    return ways


def convolve(left, right):
    """For each sum of two indices the sum of the products of the numbers at them, in a list."""
    result = [0 for _ in range(len(left) + len(right) - 1)]
    for at, factor in enumerate(left):
        for other, number in enumerate(right):
            result[at + other] = result[at + other] + factor * number
    return result
