"""The products of plain sums, run sums, whole sums and ribbon sums."""

from shuffledcuts.compositions import GREATEST_NUMBER, runs_of
from shuffledcuts.errors import TooMany
from shuffledcuts.listings import shuffles
from shuffledcuts.sums import degrees, multiplied


def multiplied_within(one, other, things_of):
    """Return the product by things_of, or raise TooMany if it would have too great a number."""
    if one and other and degrees(one)[-1] + degrees(other)[-1] > GREATEST_NUMBER:
        raise TooMany(GREATEST_NUMBER)
    return multiplied(one, other, things_of)


def overlays(a, b):
    """Return the compositions of all rows of pairs that take next entries of a, of b, or of both added up."""
    if not a or not b:
        return [a + b]
    rows = [a[:1] + rest for rest in overlays(a[1:], b)]
    rows.extend([b[:1] + rest for rest in overlays(a, b[1:])])
    rows.extend([(a[0] + b[0],) + rest for rest in overlays(a[1:], b[1:])])
    return rows


def overlaid(one, other):
    """Return the product of plain sums."""
    return multiplied_within(one, other, overlays)


def listing_with_runs(composition):
    """Return a listing that has these runs."""
    # Each run lies wholly below the one ahead of it, so that it begins where that one ends.
    listing = []
    low = sum(composition)
    for entry in composition:
        low -= entry
        listing.extend(list(range(low, low + entry)))
    return tuple(listing)


def runs_of_shuffles(a, b):
    """Return the runs of all shuffles of a listing with the runs a and one with the runs b."""
    return [runs_of(listing) for listing in shuffles(listing_with_runs(a), listing_with_runs(b))]


def run_product(one, other):
    """Return the product of run sums."""
    return multiplied_within(one, other, runs_of_shuffles)


def behind_one(a, b):
    """Return the composition with the entries of a and behind them those of b."""
    return [a + b]


def behind(one, other):
    """Return the product of whole sums."""
    return multiplied_within(one, other, behind_one)


def ribbons_behind(a, b):
    """Return a with b behind it and, if neither is empty, this with the entries where they meet made one."""
    if not a or not b:
        return [a + b]
    return [a + b, a[:-1] + (a[-1] + b[0],) + b[1:]]


def ribbon_product(one, other):
    """Return the product of ribbon sums."""
    return multiplied_within(one, other, ribbons_behind)
