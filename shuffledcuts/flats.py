"""Flats of webs, webs squeezed by them, turning webs back, and the orders of the ways to lead the ties."""

from math import factorial

from shuffledcuts.compositions import sign_of
from shuffledcuts.partings import partings_of
from shuffledcuts.sums import gathered
from shuffledcuts.webs import one_ways


def least_places(n, ties):
    """Return, for each place, the least of those that hang together with it by the ties."""
    least = list(range(n))
    for x, y in ties:
        low, high = sorted([least[x], least[y]])
        least = [low if place == high else place for place in least]
    return least


def hangs_together(ties, lot):
    """Tell whether the places of a lot hang together by the ties within it."""
    numbered = [(lot.index(x), lot.index(y)) for x, y in ties if x in lot and y in lot]
    return all([place == 0 for place in least_places(len(lot), numbered)])


def ties_within(ties, lots):
    """Return the ties that have both ends in one lot."""
    return tuple([(x, y) for x, y in ties if any([x in lot and y in lot for lot in lots])])


def flats(web):
    """Return all flats of the web, ascending."""
    n, ties = web
    # A flat tells its lots of places that hang together and is told by them.
    partings = [lots for lots in partings_of(n) if all([hangs_together(ties, lot) for lot in lots])]
    return tuple(sorted([ties_within(ties, lots) for lots in partings]))


def squeezed(web, flat):
    """Return the web whose places are the lots of places that hang together by the flat."""
    n, ties = web
    least = least_places(n, flat)
    lots = sorted(set(least))
    names = [lots.index(place) for place in least]
    pairs = sorted({tuple(sorted([names[x], names[y]])) for x, y in ties if names[x] != names[y]})
    return (len(lots), tuple(pairs))


def web_turned_back(web):
    """Return the sum over webs to which turning back leads the web, by its flats."""
    terms = []
    for flat in flats(web):
        rest = squeezed(web, flat)
        terms.append(((web[0], flat), sign_of(rest[0]) * one_ways(rest)))
    return tuple(terms)


def web_by_depths(web):
    """Return the sum over webs to which turning back leads the web, by all rows of lots of places."""
    n, ties = web
    # The lots of a parting make as many rows as they can be put in sequences, all with the same ties.
    return gathered([((n, ties_within(ties, lots)), sign_of(len(lots)) * factorial(len(lots)))
                     for lots in partings_of(n)])


def with_below(pairs, x, y):
    """Return the pairs of an order with x below y in addition, and all pairs that this leads to."""
    if (x, y) in pairs:
        return pairs
    lower = [x] + [low for low, high in pairs if high == x]
    upper = [y] + [high for low, high in pairs if low == y]
    return tuple(sorted(set([*pairs, *[(low, high) for low in lower for high in upper]])))


def web_orders(web):
    """Return the sum over the orders of all ways to lead each tie one way so that nobody goes round."""
    n, ties = web
    # Each way so far can be gone on with, so there are never more of them than at the end.
    ways = [()]
    for x, y in ties:
        ways = [with_below(pairs, low, high) for pairs in ways for low, high in ((x, y), (y, x))
                if (high, low) not in pairs]
    return gathered([((n, pairs), 1) for pairs in ways])
