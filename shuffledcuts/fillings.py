"""Fillings of labelled orders, and the run sums that tell them."""

from math import comb, factorial

from shuffledcuts.compositions import runs_of
from shuffledcuts.orders import rows_of
from shuffledcuts.ratios import falling_row, ratio
from shuffledcuts.sums import gathered


def order_sum(order):
    """Return the run sum in which each listing of the rows of the order is replaced by its runs."""
    return gathered([(runs_of(row), 1) for row in rows_of(order)])


def numbered_by(order, row):
    """Return the order with each thing numbered by its place in a row of all things, from the last one to the first."""
    last = order[0] - 1
    pairs = [(last - row.index(x), last - row.index(y)) for x, y in order[1]]
    return (order[0], tuple(sorted(pairs)))


def strict_sum(order):
    """Return the run sum of the order numbered anew so that what is below has the greater number."""
    return order_sum(numbered_by(order, rows_of(order)[0]))


def fillings(order, m):
    """Return how many fillings with numbers up to m there are."""
    n = order[0]
    return sum([k * comb(m + n - len(composition), n) for composition, k in order_sum(order)])


def filling_row(order):
    """Return the numbers of x^0, .., x^n in the polynomial that tells the fillings."""
    n = order[0]
    row = [0] * (n + 1)
    for composition, k in order_sum(order):
        row = [old + k * new for old, new in zip(row, falling_row(n - len(composition), n))]
    return tuple([ratio(k, factorial(n)) for k in row])
