"""Ratios in lowest terms, powers, and the polynomials that tell in how many ways things can be chosen."""

from math import gcd


def ratio(a, b):
    """Return the ratio of an integer and one of at least 1 in lowest terms."""
    common = gcd(a, b)
    return (a // common, b // common)


def ratio_plus(one, other):
    """Return the sum of two ratios."""
    return ratio(one[0] * other[1] + other[0] * one[1], one[1] * other[1])


def ratio_times(one, other):
    """Return the product of two ratios."""
    return ratio(one[0] * other[0], one[1] * other[1])


def power(k, exponent):
    """Return the product of as many factors k as the exponent tells."""
    product = 1
    for _ in range(exponent):
        product *= k
    return product


def falling_row(shift, n):
    """Return the numbers of x^0, .., x^n in the product of the n factors x + shift, x + shift - 1, and so on."""
    row = [1]
    for step in range(n):
        row = [low + (shift - step) * high for low, high in zip([0] + row, row + [0])]
    return row
