"""Sums over listings: shuffles, runs, cuts, listings one after another."""

from shuffledcuts.compositions import runs_of
from shuffledcuts.errors import NotFit, TooMany
from shuffledcuts.sums import gathered, multiplied, replaced

GREATEST_LISTING = 6


def interleaved(u, v):
    """Return all rows that have the entries of both rows, those of each in their sequence."""
    if not u or not v:
        return [u + v]
    rows = [u[:1] + rest for rest in interleaved(u[1:], v)]
    rows.extend([v[:1] + rest for rest in interleaved(u, v[1:])])
    return rows


def shuffles(u, v):
    """Return all listings in which the entries of v, each made greater by the length of u, are shuffled with u."""
    return interleaved(u, tuple([len(u) + entry for entry in v]))


def shuffled(one, other):
    """Return the product of sums over listings by shuffles."""
    # A sum has its listings ascending by their entries, so the longest one may stand anywhere.
    lengths = [len(listing) for listing, _ in one]
    others = [len(listing) for listing, _ in other]
    if lengths and others and max(lengths) + max(others) > GREATEST_LISTING:
        raise TooMany(GREATEST_LISTING)
    return multiplied(one, other, shuffles)


def run_sum(one):
    """Return the run sum in which each listing is replaced by its runs."""
    return gathered([(runs_of(listing), k) for listing, k in one])


def listing_of(row):
    """Return the listing with the same sequence of lesser and greater as a row of unlike integers."""
    ascending = sorted(row)
    return tuple([ascending.index(entry) for entry in row])


def cuts_of_listing(listing):
    """Return the pairs of listings into which a listing is cut at all of its places."""
    return [(listing_of(listing[:at]), listing_of(listing[at:])) for at in range(len(listing) + 1)]


def listing_cuts(one):
    """Return the cut sum of a sum over listings."""
    return replaced(one, cuts_of_listing)


def back_listing(listing):
    """Return the listing that has at listing[i] the entry i."""
    return tuple([listing.index(entry) for entry in range(len(listing))])


def listings_then(u, v):
    """Return the one listing that a listing and then another one give."""
    return [tuple([v[entry] for entry in u])]


def then(one, other):
    """Return the product of sums over listings of one n, done one after another."""
    if len({len(listing) for listing, _ in (*one, *other)}) > 1:
        raise NotFit("listings of unlike numbers")
    return multiplied(one, other, listings_then)
