"""Compositions that are first of their turns, and plain sums told as polynomials in them."""

from math import factorial

from shuffledcuts.compositions import GREATEST_NUMBER, all_compositions
from shuffledcuts.errors import TooMany
from shuffledcuts.products import overlaid
from shuffledcuts.ratios import ratio_plus, ratio_times
from shuffledcuts.sums import degrees

GREATEST_MIXED = 8


def is_first(composition):
    """Tell whether a composition is not empty and less than all that is left of it without some first entries."""
    return composition != () and all([composition < composition[at:] for at in range(1, len(composition))])


def firsts(n):
    """Return all first compositions of n, ascending."""
    return tuple([composition for composition in all_compositions(n) if is_first(composition)])


def first_parts(composition):
    """Return the first compositions, none greater than the one ahead of it, that make up a composition."""
    parts = []
    rest = composition
    while rest:
        # The longest first one with which it begins, because a part and a greater one behind it make a first one.
        size = max([at for at in range(1, len(rest) + 1) if is_first(rest[:at])])
        parts.append(rest[:size])
        rest = rest[size:]
    return tuple(parts)


def overlaid_lot(lot, kept):
    """Return the product of the compositions of a lot; kept has that of none and those found so far."""
    if lot not in kept:
        kept[lot] = overlaid(overlaid_lot(lot[:-1], kept), ((lot[-1], 1),))
    return kept[lot]


def add_times(shares, share, one):
    """Add a share times a sum to a dict of shares."""
    for thing, k in one:
        shares[thing] = ratio_plus(shares.get(thing, (0, 1)), ratio_times(share, (k, 1)))


def sequences_of_like(lot):
    """Return in how many ways like compositions of a lot can be exchanged."""
    ways = 1
    for part in sorted(set(lot)):
        ways *= factorial(lot.count(part))
    return ways


def mixture_of(one):
    """Return the mixture that stands for a plain sum, or raise TooMany."""
    if any([sum(composition) > GREATEST_MIXED for composition, _ in one]):
        raise TooMany(GREATEST_MIXED)
    left = {composition: (k, 1) for composition, k in one}
    kept = {(): (((), 1),)}
    mixture = []
    rows = [(len(row), row) for n in degrees(one) for row in all_compositions(n)]
    # In this sequence what a lot makes up has its parts put behind one another ahead of all else.
    for _, row in sorted(rows, reverse=True):
        share = left.get(row, (0, 1))
        if share != (0, 1):
            lot = first_parts(row)
            number = ratio_times(share, (1, sequences_of_like(lot)))
            mixture.append((lot, number))
            add_times(left, (-number[0], number[1]), overlaid_lot(lot, kept))
    return tuple(sorted(mixture))


def plain_of_mixture(mixture):
    """Return the shares over compositions for which a mixture stands, or raise TooMany."""
    if any([sum([sum(part) for part in lot]) > GREATEST_NUMBER for lot, _ in mixture]):
        raise TooMany(GREATEST_NUMBER)
    shares = {}
    kept = {(): (((), 1),)}
    for lot, number in mixture:
        add_times(shares, number, overlaid_lot(lot, kept))
    return tuple([(thing, shares[thing]) for thing in sorted(shares) if shares[thing] != (0, 1)])
