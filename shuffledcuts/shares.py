"""Shares of listings by their runs: rising shares, shuffles with heaps, numbers of runs."""

from itertools import permutations
from math import comb, factorial

from shuffledcuts.compositions import runs_of
from shuffledcuts.ratios import falling_row, power, ratio


def rising_row(n):
    """Return the table with the number of x^k, for listings with d + 1 runs, at entry d of row k - 1."""
    columns = [falling_row(n - 1 - d, n) for d in range(n)]
    whole = factorial(n)
    return tuple([tuple([ratio(column[k], whole) for column in columns]) for k in range(1, n + 1)])


def rising_share(n, k):
    """Return e(k) as shares over listings of n, ascending."""
    row = rising_row(n)[k - 1]
    shares = [(listing, row[len(runs_of(listing)) - 1]) for listing in permutations(range(n))]
    return tuple([(listing, share) for listing, share in shares if share != (0, 1)])


def shuffle_row(n, a):
    """Return the chances that a shuffle with a heaps leads to a told listing of n with 1, 2, .. runs."""
    if n == 0:
        return ((1, 1),)
    ways = power(a, n)
    return tuple([ratio(comb(a + n - 1 - d, n), ways) for d in range(n)])


def runs_counts(n):
    """Return how many listings of n have 1, 2, .. runs."""
    row = [1]
    for size in range(2, n + 1):
        # The greatest entry either ends a run (as many places as runs) or makes one run into two (all other places).
        row = [(d + 1) * same + (size - d) * fewer for d, (same, fewer) in enumerate(zip(row + [0], [0] + row))]
    return tuple(row)
