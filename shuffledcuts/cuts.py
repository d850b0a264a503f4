"""Sums cut apart into sums over pairs, and how these are multiplied."""

from shuffledcuts.bases import wholes_of_ribbons
from shuffledcuts.compositions import coarser_ones
from shuffledcuts.listings import listing_cuts, shuffled
from shuffledcuts.products import behind, overlaid, ribbon_product, run_product
from shuffledcuts.sums import replaced, sum_of_counts


def plain_parts(composition):
    """Return the pairs of the first entries and the other ones."""
    return [(composition[:at], composition[at:]) for at in range(len(composition) + 1)]


def plain_cuts(one):
    """Return the cut sum of a plain sum."""
    return replaced(one, plain_parts)


def run_parts(composition):
    """Return the pairs into which the composition is cut, between two entries or within one."""
    pairs = [((), composition)]
    for at, entry in enumerate(composition):
        ahead, rest = composition[:at], composition[at + 1:]
        pairs.extend([(ahead + (k,), (entry - k,) + rest) for k in range(1, entry)])
        pairs.append((ahead + (entry,), rest))
    return pairs


def run_cuts(one):
    """Return the cut sum of a run sum."""
    return replaced(one, run_parts)


def without_zero(k):
    """Return the composition of k with one entry, which is none for 0."""
    return (k,) if k > 0 else ()


def whole_parts(composition):
    """Return the pairs into which each entry is parted, one pair for each way to part all of them."""
    pairs = [((), ())]
    for entry in composition:
        ways = [(without_zero(k), without_zero(entry - k)) for k in range(entry + 1)]
        pairs = [(first + left, second + right) for first, second in pairs for left, right in ways]
    return pairs


def whole_cuts(one):
    """Return the cut sum of a whole sum."""
    return replaced(one, whole_parts)


def with_coarser_first(pair):
    """Return the pairs with the first composition replaced by all coarser ones."""
    return [(row, pair[1]) for row in coarser_ones(pair[0])]


def with_coarser_second(pair):
    """Return the pairs with the second composition replaced by all coarser ones."""
    return [(pair[0], row) for row in coarser_ones(pair[1])]


def ribbon_cuts(one):
    """Return the cut sum of a ribbon sum."""
    pairs = whole_cuts(wholes_of_ribbons(one))
    return replaced(replaced(pairs, with_coarser_first), with_coarser_second)


def cuts_as(one, sort):
    """Return the cut sum of a sum of the sort that the word tells."""
    if sort == "plain":
        return plain_cuts(one)
    if sort == "runs":
        return run_cuts(one)
    if sort == "wholes":
        return whole_cuts(one)
    if sort == "ribbons":
        return ribbon_cuts(one)
    return listing_cuts(one)


def product_as(one, other, sort):
    """Return the product of two sums of the sort that the word tells."""
    if sort == "plain":
        return overlaid(one, other)
    if sort == "runs":
        return run_product(one, other)
    if sort == "wholes":
        return behind(one, other)
    if sort == "ribbons":
        return ribbon_product(one, other)
    return shuffled(one, other)


def paired(one, other):
    """Return the sum of all pairs of a thing of one and a thing of the other, with the product of both numbers."""
    # Both sums are ascending and without numbers of 0, and so are the pairs.
    return tuple([((a, b), k * j) for a, k in one for b, j in other])


def by_first_things(one):
    """Return, for each first thing of a sum over pairs, the thing and the sum of the second things beside it."""
    rows = {}
    for (first, second), k in one:
        rows.setdefault(first, []).append((second, k))
    return [(first, tuple(seconds)) for first, seconds in rows.items()]


def cut_product(one, other, product):
    """Return the product of two sums over pairs, first things by first ones and second by second ones."""
    counts = {}
    groups = by_first_things(other)
    for a, ones in by_first_things(one):
        for b, others in groups:
            firsts = product_as(((a, 1),), ((b, 1),), product)
            for pair, k in paired(firsts, product_as(ones, others, product)):
                counts[pair] = counts.get(pair, 0) + k
    return sum_of_counts(counts)
