"""Ratios in lowest terms, and the polynomials that tell in how many ways things can be chosen."""

from math import gcd


def ratio(a, b):
    """Return the ratio of an integer and one of at least 1 in lowest terms."""
    common = gcd(a, b)
    return (a // common, b // common)


def falling_row(shift, n):
    """Return the numbers of x^0, .., x^n in the product of the n factors x + shift, x + shift - 1, and so on."""
    row = [1]
    for step in range(n):
        row = [low + (shift - step) * high for low, high in zip([0] + row, row + [0])]
    return row
